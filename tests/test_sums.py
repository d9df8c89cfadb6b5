import itertools
import unittest

from samples import (
    GREATEST, LENGTHS, WRONG_ROWS, powers_in, refusal_of, rows_of, scattered, sign_rows, small_rows,
    sums_by_table,
)
from signsums.errors import NoRow, NoSums
from signsums.sums import back, sums


def modest_rows(length):
    """Rows whose sums are rows too: none beyond 10 ** 20."""
    bound = GREATEST // length
    mixed = [scattered(length, seed, -bound, bound) for seed in range(3)]
    return sign_rows(length) + small_rows(length) + mixed + [[bound] * length, [-bound] * length]


class TestRows(unittest.TestCase):
    """Point [2]."""

    def test_each_length_of_a_row_is_taken(self):
        for length in LENGTHS:
            self.assertEqual(sums([0] * length), [0] * length)
            self.assertEqual(back([0] * length), [0] * length)

    def test_numbers_up_to_the_bound_are_taken(self):
        for number in (GREATEST, -GREATEST):
            self.assertEqual(sums([number]), [number])
            self.assertEqual(back([number]), [number])
            for length in LENGTHS:
                last = [0] * (length - 1) + [number]
                self.assertEqual(sums(last), sums_by_table(last))
                self.assertEqual(back([number] * length), [number] + [0] * (length - 1))

    def test_another_list_is_no_row(self):
        for row in WRONG_ROWS:
            with self.subTest(row=row):
                self.assertIs(refusal_of(sums, row), NoRow)
                self.assertIs(refusal_of(back, row), NoRow)

    def test_one_wrong_number_at_any_place_is_enough(self):
        for length in LENGTHS:
            for place in range(length):
                for number in (GREATEST + 1, -GREATEST - 1):
                    row = [0] * length
                    row[place] = number
                    self.assertIs(refusal_of(sums, row), NoRow)
                    self.assertIs(refusal_of(back, row), NoRow)


class TestSums(unittest.TestCase):
    """Points [3] and [4]."""

    def test_by_hand(self):
        self.assertEqual(sums([7]), [7])
        self.assertEqual(sums([-7]), [-7])
        self.assertEqual(sums([5, 3]), [8, 2])
        self.assertEqual(sums([1, 2, 3, 4]), [10, -2, -4, 0])
        self.assertEqual(sums([1, -1, -1, -1]), [-2, 2, 2, 2])
        self.assertEqual(sums([1, 2, 3, 4, 5, 6, 7, 8]), [36, -4, -8, 0, -16, 0, 0, 0])

    def test_rows_of_all_lengths(self):
        for length in LENGTHS:
            for row in rows_of(length):
                self.assertEqual(sums(row), sums_by_table(row))

    def test_each_sign_of_each_place(self):
        for length in LENGTHS:
            for place in range(length):
                row = [1 if here == place else 0 for here in range(length)]
                expected = [
                    -1 if len(powers_in(place) & powers_in(choice)) % 2 else 1 for choice in range(length)
                ]
                self.assertEqual(sums(row), expected)

    def test_beyond_the_bound_of_a_row(self):
        self.assertEqual(sums([GREATEST, GREATEST]), [2 * GREATEST, 0])
        self.assertEqual(sums([-GREATEST, GREATEST]), [0, -2 * GREATEST])
        self.assertEqual(sums([GREATEST] * 32), [32 * GREATEST] + [0] * 31)
        self.assertEqual(sums([-GREATEST] * 32), [-32 * GREATEST] + [0] * 31)
        self.assertEqual(sums([GREATEST, 1]), [GREATEST + 1, GREATEST - 1])


class TestBack(unittest.TestCase):
    """Point [5]."""

    def test_sums_of_the_sums(self):
        for length in LENGTHS:
            for row in modest_rows(length):
                self.assertEqual(sums(sums(row)), [length * number for number in row])

    def test_the_sums_lead_back(self):
        for length in LENGTHS:
            for row in modest_rows(length):
                self.assertEqual(back(sums(row)), row)

    def test_by_hand(self):
        self.assertEqual(back([7]), [7])
        self.assertEqual(back([8, 2]), [5, 3])
        self.assertEqual(back([-2, 2, 2, 2]), [1, -1, -1, -1])
        self.assertEqual(back([10, -2, -4, 0]), [1, 2, 3, 4])
        self.assertEqual(back([GREATEST, -GREATEST]), [0, GREATEST])

    def test_what_is_told_are_whole_numbers(self):
        for row in ([6], [8, 2], [-8, -2], [GREATEST - 1, GREATEST - 1]):
            for number in back(row):
                self.assertIs(number.__class__, int)
        self.assertEqual(back([GREATEST - 1, GREATEST - 3]), [GREATEST - 2, 1])

    def test_sums_of_no_row(self):
        cases = [[1, 0], [0, 1], [0, -1], [-1, 0], [GREATEST, 1], [GREATEST, GREATEST - 1],
                 [2, 0, 0, 0], [0, 0, 0, 2], [2, 1, 0, 1], [1, 1, 1, 0], [10, -2, -4, 1], [10, -2, -4, 2]]
        for row in cases:
            with self.subTest(row=row):
                self.assertIs(refusal_of(back, row), NoSums)

    def test_one_number_off_leads_back_to_no_row(self):
        for length in LENGTHS[1:]:
            for row in modest_rows(length):
                for place in (0, length // 2, length - 1):
                    for much in (1, length // 2):
                        told = sums(row)
                        # Towards nought, so that it stays a row.
                        told[place] += -much if told[place] > 0 else much
                        self.assertIs(refusal_of(back, told), NoSums)

    def test_each_small_row_is_answered_or_refused_rightly(self):
        # Sums from -3 to 3 lead back to numbers from -3 to 3, so all rows that can be meant are tried.
        for length in (1, 2, 4):
            rows = list(itertools.product(range(-3, 4), repeat=length))
            meant = {tuple(sums_by_table(row)): list(row) for row in rows}
            for row in rows:
                if row in meant:
                    self.assertEqual(back(list(row)), meant[row])
                else:
                    self.assertIs(refusal_of(back, list(row)), NoSums)

    def test_no_row_ahead_of_no_sums(self):
        for row in ([1, 0, 0], [GREATEST + 1, 0], [0, -GREATEST - 2], [1, 0, 0, GREATEST + 1], [2 * GREATEST, 0]):
            with self.subTest(row=row):
                self.assertIs(refusal_of(back, row), NoRow)


class TestSquares(unittest.TestCase):
    """Point [6]."""

    def test_squares_together(self):
        for length in LENGTHS:
            for row in rows_of(length):
                squares = sum(number ** 2 for number in row)
                self.assertEqual(sum(number ** 2 for number in sums(row)), length * squares)


if __name__ == "__main__":
    unittest.main()
