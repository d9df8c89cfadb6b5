import unittest

from samples import (
    GREATEST, LENGTHS, SIGNLESS_ROWS, WRONG_ROWS, all_sign_rows, distance_by_places, many_sign_rows,
    nearest_by_walk, refusal_of, sign_rows, signs, sums_by_table,
)
from signsums.errors import NoChoice, NoMatch, NoRow, NoSigns, NoStep
from signsums.straight import distance, nearest, straight

WRONG_STEPS = (1 - 10 ** 30, -10 ** 20, -64, -6, -5, -2, -1, 6, 7, 8, 32, 64, 10 ** 20, 10 ** 30 - 1)


def straight_rows(steps):
    return [straight(steps, choice, turned) for choice in range(LENGTHS[steps]) for turned in (False, True)]


class TestStraight(unittest.TestCase):
    """Point [10]."""

    def test_by_hand(self):
        self.assertEqual(straight(0, 0, False), [1])
        self.assertEqual(straight(0, 0, True), [-1])
        self.assertEqual(straight(1, 0, False), [1, 1])
        self.assertEqual(straight(1, 1, False), [1, -1])
        self.assertEqual(straight(1, 1, True), [-1, 1])
        self.assertEqual(straight(2, 1, False), [1, -1, 1, -1])
        self.assertEqual(straight(2, 2, False), [1, 1, -1, -1])
        self.assertEqual(straight(2, 3, False), [1, -1, -1, 1])
        self.assertEqual(straight(2, 3, True), [-1, 1, 1, -1])
        self.assertEqual(straight(3, 7, False), [1, -1, -1, 1, -1, 1, 1, -1])

    def test_each_straight_row(self):
        for steps, length in enumerate(LENGTHS):
            for choice, line in enumerate(signs(length)):
                self.assertEqual(straight(steps, choice, False), line)
                self.assertEqual(straight(steps, choice, True), [-sign for sign in line])

    def test_what_is_told_are_whole_numbers(self):
        for steps in range(6):
            for row in straight_rows(steps):
                self.assertEqual({number.__class__ for number in row}, {int})

    def test_there_are_twice_as_many_as_numbers(self):
        for steps, length in enumerate(LENGTHS):
            self.assertEqual(len({tuple(row) for row in straight_rows(steps)}), 2 * length)

    def test_they_differ_at_half_of_the_places(self):
        for steps, length in enumerate(LENGTHS):
            rows = straight_rows(steps)
            for one in rows:
                contrary = [-sign for sign in one]
                for other in rows:
                    expected = 0 if one == other else length if other == contrary else length // 2
                    self.assertEqual(distance(one, other), expected)

    def test_steps_beyond(self):
        for steps in WRONG_STEPS:
            for turned in (False, True):
                with self.subTest(steps=steps, turned=turned):
                    self.assertIs(refusal_of(straight, steps, 0, turned), NoStep)

    def test_choices_beyond(self):
        for steps, length in enumerate(LENGTHS):
            for choice in (1 - 10 ** 30, -length, -2, -1, length, length + 1, 2 * length, 64, 10 ** 30 - 1):
                for turned in (False, True):
                    with self.subTest(steps=steps, choice=choice, turned=turned):
                        self.assertIs(refusal_of(straight, steps, choice, turned), NoChoice)

    def test_choices_at_the_bounds(self):
        for steps, length in enumerate(LENGTHS):
            self.assertEqual(len(straight(steps, 0, False)), length)
            self.assertEqual(len(straight(steps, length - 1, True)), length)

    def test_no_step_ahead_of_no_choice(self):
        for steps in WRONG_STEPS:
            for choice in (1 - 10 ** 30, -1, 1, 31, 32, 64, 10 ** 30 - 1):
                with self.subTest(steps=steps, choice=choice):
                    self.assertIs(refusal_of(straight, steps, choice, False), NoStep)


class TestDistance(unittest.TestCase):
    """Point [11], its first sentence."""

    def test_by_hand(self):
        self.assertEqual(distance([1], [1]), 0)
        self.assertEqual(distance([1], [-1]), 1)
        self.assertEqual(distance([1, -1], [-1, 1]), 2)
        self.assertEqual(distance([1, 1, 1, -1], [1, 1, 1, 1]), 1)
        self.assertEqual(distance([1] * 32, [-1] * 32), 32)

    def test_each_pair_of_short_rows(self):
        for length in (1, 2, 4):
            for one in all_sign_rows(length):
                for other in all_sign_rows(length):
                    self.assertEqual(distance(one, other), distance_by_places(one, other))

    def test_long_rows(self):
        for length in (8, 16, 32):
            for one in many_sign_rows(length)[::5]:
                for other in many_sign_rows(length)[::7]:
                    self.assertEqual(distance(one, other), distance_by_places(one, other))

    def test_one_place_each(self):
        for length in LENGTHS:
            for row in sign_rows(length):
                for place in range(length):
                    other = list(row)
                    other[place] = -other[place]
                    self.assertEqual(distance(row, other), 1)

    def test_it_is_a_whole_number(self):
        for other in ([1, 1], [1, -1], [-1, -1]):
            self.assertIs(distance([1, 1], other).__class__, int)

    def test_another_list_is_no_row_and_that_ahead_of_all_else(self):
        for row in WRONG_ROWS:
            with self.subTest(row=row):
                self.assertIs(refusal_of(distance, row, row), NoRow)
                for length in LENGTHS:
                    for number in (1, 5):
                        self.assertIs(refusal_of(distance, row, [number] * length), NoRow)
                        self.assertIs(refusal_of(distance, [number] * length, row), NoRow)

    def test_unlike_lengths_and_that_ahead_of_no_signs(self):
        for length in LENGTHS:
            for width in LENGTHS:
                for first, second in ((1, 1), (0, 1), (1, 0), (2, -2), (GREATEST, -GREATEST)):
                    if length != width:
                        self.assertIs(refusal_of(distance, [first] * length, [second] * width), NoMatch)

    def test_rows_with_other_numbers(self):
        for row in SIGNLESS_ROWS:
            with self.subTest(row=row):
                self.assertIs(refusal_of(distance, row, row), NoSigns)
                self.assertIs(refusal_of(distance, row, [1] * len(row)), NoSigns)
                self.assertIs(refusal_of(distance, [1] * len(row), row), NoSigns)


class TestNearest(unittest.TestCase):
    """Point [11], the rest."""

    def test_by_hand(self):
        self.assertEqual(nearest([1]), (0, False, 0))
        self.assertEqual(nearest([-1]), (0, True, 0))
        self.assertEqual(nearest([1, -1]), (1, False, 0))
        self.assertEqual(nearest([-1, 1]), (1, True, 0))
        self.assertEqual(nearest([-1, 1, 1, -1]), (3, True, 0))
        self.assertEqual(nearest([1, 1, 1, 1, 1, 1, 1, -1]), (0, False, 1))

    def test_of_several_the_least_choice(self):
        self.assertEqual(nearest([1, 1, 1, -1]), (0, False, 1))
        # Choice 3 is as near and isn't turned, but the least choice goes ahead of that.
        self.assertEqual(nearest([-1, -1, -1, 1]), (0, True, 1))
        self.assertEqual(nearest([1, -1, 1, 1]), (0, False, 1))
        self.assertEqual(nearest([1, -1, -1, -1]), (0, True, 1))

    def test_against_a_walk_over_all_straight_rows(self):
        for length in LENGTHS:
            for row in many_sign_rows(length):
                self.assertEqual(nearest(row), nearest_by_walk(row))

    def test_a_straight_row_is_its_own_nearest(self):
        for steps, length in enumerate(LENGTHS):
            for choice in range(length):
                for turned in (False, True):
                    self.assertEqual(nearest(straight(steps, choice, turned)), (choice, turned, 0))

    def test_the_distance_is_that_of_the_row_told(self):
        for steps, length in enumerate(LENGTHS):
            for row in many_sign_rows(length):
                choice, turned, off = nearest(row)
                self.assertEqual(distance(row, straight(steps, choice, turned)), off)
                number = sums_by_table(row)[choice]
                self.assertEqual(2 * off, length + number if turned else length - number)

    def test_the_kinds_of_what_is_told(self):
        for row in ([1], [-1], [1, 1, 1, -1], [-1] * 32):
            told = nearest(row)
            self.assertIs(told.__class__, tuple)
            self.assertEqual([part.__class__ for part in told], [int, bool, int])

    def test_another_list_is_no_row(self):
        for row in WRONG_ROWS:
            with self.subTest(row=row):
                self.assertIs(refusal_of(nearest, row), NoRow)

    def test_rows_with_other_numbers(self):
        for row in SIGNLESS_ROWS:
            with self.subTest(row=row):
                self.assertIs(refusal_of(nearest, row), NoSigns)


if __name__ == "__main__":
    unittest.main()
