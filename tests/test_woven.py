import unittest

from samples import (
    GREATEST, LENGTHS, WRONG_ROWS, powers_in, refusal_of, rows_of, sums_by_table, tied_by_pairs, woven_by_pairs,
)
from signsums.errors import NoMatch, NoRow, NoStep, TooLong
from signsums.sums import sums
from signsums.woven import halved, tied, woven


def some_rows(length):
    """Signs, small and great ones, few enough to be tried in pairs."""
    return rows_of(length)[2::3]


class TestWoven(unittest.TestCase):
    """Point [7]."""

    def test_by_hand(self):
        self.assertEqual(woven([3], [-5]), [-15])
        self.assertEqual(woven([1, 2], [3, 4]), [11, 10])
        self.assertEqual(woven([1, 2, 3, 4], [5, 6, 7, 8]), [70, 68, 62, 60])

    def test_rows_of_all_lengths(self):
        for length in LENGTHS:
            for one in some_rows(length):
                for other in some_rows(length):
                    self.assertEqual(woven(one, other), woven_by_pairs(one, other))

    def test_units_are_woven_to_the_unit_of_the_exclusive(self):
        for length in LENGTHS:
            units = [[1 if here == place else 0 for here in range(length)] for place in range(length)]
            for here in range(length):
                for there in range(length):
                    exclusive = sum(powers_in(here) ^ powers_in(there))
                    self.assertEqual(woven(units[here], units[there]), units[exclusive])

    def test_sums_are_the_products_of_the_sums(self):
        for length in LENGTHS:
            for one in some_rows(length):
                for other in some_rows(length):
                    products = [first * second for first, second in zip(sums(one), sums(other))]
                    # By the table: the woven row's numbers may be beyond those of a row.
                    self.assertEqual(sums_by_table(woven(one, other)), products)

    def test_sums_of_a_woven_row_of_small_numbers(self):
        for length in LENGTHS:
            one = [place - 7 for place in range(length)]
            other = [3 - place for place in range(length)]
            products = [first * second for first, second in zip(sums(one), sums(other))]
            self.assertEqual(sums(woven(one, other)), products)

    def test_beyond_the_bound_of_a_row(self):
        self.assertEqual(woven([GREATEST], [-GREATEST]), [-10 ** 40])
        self.assertEqual(woven([GREATEST] * 32, [GREATEST] * 32), [32 * 10 ** 40] * 32)

    def test_unlike_lengths(self):
        for length in LENGTHS:
            for width in LENGTHS:
                expected = None if length == width else NoMatch
                self.assertIs(refusal_of(woven, [1] * length, [1] * width), expected)

    def test_another_list_is_no_row(self):
        for row in WRONG_ROWS:
            with self.subTest(row=row):
                self.assertIs(refusal_of(woven, row, row), NoRow)
                self.assertIs(refusal_of(woven, row, [1] * len(row)), NoRow)
                self.assertIs(refusal_of(woven, [1] * len(row), row), NoRow)

    def test_no_row_ahead_of_no_match(self):
        for row in WRONG_ROWS:
            for length in LENGTHS:
                self.assertIs(refusal_of(woven, row, [1] * length), NoRow)
                self.assertIs(refusal_of(woven, [1] * length, row), NoRow)


class TestTied(unittest.TestCase):
    """Point [8]."""

    def test_by_hand(self):
        self.assertEqual(tied([3], [-5]), [-15])
        self.assertEqual(tied([1, 2], [3, 4]), [3, 6, 4, 8])
        self.assertEqual(tied([3, 4], [1, 2]), [3, 4, 6, 8])
        self.assertEqual(tied([2], [1, 2, 3, 4]), [2, 4, 6, 8])
        self.assertEqual(tied([1, 2, 3, 4], [1, -1]), [1, 2, 3, 4, -1, -2, -3, -4])
        self.assertEqual(tied([1, -1], [1, 2, 3, 4]), [1, -1, 2, -2, 3, -3, 4, -4])

    def test_each_pair_of_lengths(self):
        for length in LENGTHS:
            for width in LENGTHS:
                if length * width > 32:
                    self.assertIs(refusal_of(tied, [1] * length, [1] * width), TooLong)
                    continue
                for one in some_rows(length):
                    for other in some_rows(width):
                        self.assertEqual(tied(one, other), tied_by_pairs(one, other))

    def test_sums_are_the_sums_tied(self):
        for length in LENGTHS:
            for width in LENGTHS:
                if length * width <= 32:
                    for one in some_rows(length):
                        for other in some_rows(width):
                            expected = tied_by_pairs(sums(one), sums(other))
                            # By the table: the tied row's numbers may be beyond those of a row.
                            self.assertEqual(sums_by_table(tied(one, other)), expected)

    def test_sums_of_a_tied_row_of_small_numbers(self):
        for length in LENGTHS:
            one = [place - 7 for place in range(length)]
            other = [3 - place for place in range(32 // length)]
            self.assertEqual(sums(tied(one, other)), tied(sums(one), sums(other)))

    def test_the_longest_and_longer(self):
        self.assertEqual(len(tied([1] * 32, [1])), 32)
        self.assertEqual(len(tied([1], [1] * 32)), 32)
        self.assertEqual(len(tied([1] * 4, [1] * 8)), 32)
        self.assertIs(refusal_of(tied, [1] * 8, [1] * 8), TooLong)
        self.assertIs(refusal_of(tied, [1] * 32, [1] * 2), TooLong)
        self.assertIs(refusal_of(tied, [1] * 2, [1] * 32), TooLong)
        self.assertIs(refusal_of(tied, [1] * 32, [1] * 32), TooLong)

    def test_beyond_the_bound_of_a_row(self):
        self.assertEqual(tied([GREATEST, -GREATEST], [GREATEST]), [10 ** 40, -10 ** 40])

    def test_another_list_is_no_row_and_that_ahead_of_too_long(self):
        for row in WRONG_ROWS:
            with self.subTest(row=row):
                self.assertIs(refusal_of(tied, row, row), NoRow)
                for length in LENGTHS:
                    self.assertIs(refusal_of(tied, row, [1] * length), NoRow)
                    self.assertIs(refusal_of(tied, [1] * length, row), NoRow)


class TestHalved(unittest.TestCase):
    """Point [9]."""

    def test_by_hand(self):
        self.assertEqual(halved([5, 7], 0, 0), [5])
        self.assertEqual(halved([5, 7], 0, 1), [7])
        row = [10, 11, 12, 13, 14, 15, 16, 17]
        self.assertEqual(halved(row, 0, 0), [10, 12, 14, 16])
        self.assertEqual(halved(row, 0, 1), [11, 13, 15, 17])
        self.assertEqual(halved(row, 1, 0), [10, 11, 14, 15])
        self.assertEqual(halved(row, 1, 1), [12, 13, 16, 17])
        self.assertEqual(halved(row, 2, 0), [10, 11, 12, 13])
        self.assertEqual(halved(row, 2, 1), [14, 15, 16, 17])

    def test_each_step_and_half(self):
        for steps, length in enumerate(LENGTHS):
            for row in rows_of(length):
                for step, power in enumerate((1, 2, 4, 8, 16)[:steps]):
                    places = [place for place in range(length) if power in powers_in(place)]
                    left = [place for place in range(length) if power not in powers_in(place)]
                    self.assertEqual(halved(row, step, 1), [row[place] for place in places])
                    self.assertEqual(halved(row, step, 0), [row[place] for place in left])

    def test_steps_beyond(self):
        for steps, length in enumerate(LENGTHS):
            row = list(range(length))
            for half in (0, 1):
                for step in (-10 ** 29, -steps - 1, -2, -1, steps, steps + 1, 6, 64, 10 ** 29):
                    with self.subTest(length=length, step=step, half=half):
                        self.assertIs(refusal_of(halved, row, step, half), NoStep)

    def test_halves_beyond(self):
        for steps, length in enumerate(LENGTHS):
            row = list(range(length))
            for step in range(-1, steps + 1):
                for half in (-10 ** 29, -2, -1, 2, 3, 10 ** 29):
                    with self.subTest(length=length, step=step, half=half):
                        self.assertIs(refusal_of(halved, row, step, half), NoStep)

    def test_a_row_of_one_number_has_no_step(self):
        for step in range(-1, 7):
            for half in range(-1, 3):
                self.assertIs(refusal_of(halved, [4], step, half), NoStep)

    def test_another_list_is_no_row_and_that_ahead_of_no_step(self):
        for row in WRONG_ROWS:
            for step, half in ((0, 0), (0, 1), (-1, 0), (0, 2), (5, 1), (10 ** 29, -1)):
                with self.subTest(row=row, step=step, half=half):
                    self.assertIs(refusal_of(halved, row, step, half), NoRow)


if __name__ == "__main__":
    unittest.main()
