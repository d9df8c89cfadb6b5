import unittest

from samples import (
    LENGTHS, SIGNLESS_ROWS, WRONG_ROWS, all_sign_rows, many_sign_rows, refusal_of, signs, sums_by_table,
)
from signsums.errors import NoFlat, NoRow, NoSigns, NoStep
from signsums.flat import flat, is_flat
from signsums.straight import nearest
from signsums.woven import tied


def flat_by_table(row):
    return len({number ** 2 for number in sums_by_table(row)}) == 1


def flat_rows(steps):
    """Each flat row of nought or two steps; of four those that come from the one told by a straight row."""
    if steps < 4:
        return [row for row in all_sign_rows(LENGTHS[steps]) if flat_by_table(row)]
    return [[sign * number for sign, number in zip(line, flat(4))] for line in signs(16)]


class TestIsFlat(unittest.TestCase):
    """Point [12]."""

    def test_by_hand(self):
        self.assertIs(is_flat([1]), True)
        self.assertIs(is_flat([-1]), True)
        self.assertIs(is_flat([1, 1]), False)
        self.assertIs(is_flat([1, -1]), False)
        self.assertIs(is_flat([1, 1, 1, -1]), True)
        self.assertIs(is_flat([-1, 1, 1, 1]), True)
        self.assertIs(is_flat([1, 1, 1, 1]), False)
        self.assertIs(is_flat([1, 1, -1, -1]), False)
        self.assertIs(is_flat([1, 1, 1, -1] * 3 + [-1, -1, -1, 1]), True)
        self.assertIs(is_flat([1, 1, 1, -1] * 4), False)

    def test_against_the_table(self):
        for length in LENGTHS:
            for row in many_sign_rows(length):
                self.assertIs(is_flat(row), flat_by_table(row))

    def test_how_many_short_ones_there_are(self):
        found = [len([row for row in all_sign_rows(length) if is_flat(row)]) for length in (1, 2, 4, 8)]
        self.assertEqual(found, [2, 0, 8, 0])

    def test_flat_rows_of_sixteen_and_those_beside_them(self):
        for row in flat_rows(4):
            self.assertIs(is_flat(row), True)
            self.assertIs(is_flat([-sign for sign in row]), True)
            for place in range(16):
                other = list(row)
                other[place] = -other[place]
                self.assertIs(is_flat(other), False)

    def test_tied_flat_rows_are_flat(self):
        for one_steps in (0, 2, 4):
            for other_steps in (0, 2, 4):
                if one_steps + other_steps <= 4:
                    for one in flat_rows(one_steps):
                        for other in flat_rows(other_steps):
                            self.assertIs(is_flat(tied(one, other)), True)

    def test_none_with_an_odd_number_of_steps(self):
        for row in many_sign_rows(32):
            self.assertIs(is_flat(row), False)
        for row in flat_rows(4):
            for pair in all_sign_rows(2):
                self.assertIs(is_flat(tied(row, pair)), False)
                self.assertIs(is_flat(tied(pair, row)), False)

    def test_no_row_as_long_is_farther_off(self):
        for steps, farthest in ((0, 0), (2, 1), (4, 6)):
            for row in flat_rows(steps):
                self.assertEqual(nearest(row)[2], farthest)
            for row in many_sign_rows(LENGTHS[steps]):
                self.assertLessEqual(nearest(row)[2], farthest)

    def test_another_list_is_no_row(self):
        for row in WRONG_ROWS:
            with self.subTest(row=row):
                self.assertIs(refusal_of(is_flat, row), NoRow)

    def test_rows_with_other_numbers(self):
        # Some of these have sums that are all as great, and are refused all the same.
        for row in SIGNLESS_ROWS + [[2, 2, 2, -2], [0, 5], [0, 0, -1, 0]]:
            with self.subTest(row=row):
                self.assertIs(refusal_of(is_flat, row), NoSigns)


class TestFlat(unittest.TestCase):
    """Point [12] and the interface: which flat row is told is not promised."""

    def test_what_is_told_is_a_flat_sign_row(self):
        for steps in (0, 2, 4):
            row = flat(steps)
            self.assertEqual(len(row), LENGTHS[steps])
            self.assertLessEqual(set(row), {1, -1})
            self.assertEqual({number.__class__ for number in row}, {int})
            self.assertTrue(flat_by_table(row))
            self.assertIs(is_flat(row), True)

    def test_none_of_one_three_five_steps(self):
        for steps in (1, 3, 5):
            self.assertIs(refusal_of(flat, steps), NoFlat)

    def test_steps_beyond(self):
        for steps in (1 - 10 ** 30, -10 ** 20, -64, -5, -4, -3, -2, -1, 6, 7, 8, 9, 16, 32, 10 ** 20, 10 ** 30 - 1):
            with self.subTest(steps=steps):
                self.assertIs(refusal_of(flat, steps), NoStep)


if __name__ == "__main__":
    unittest.main()
