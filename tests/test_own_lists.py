"""Point [1]: what is handed in isn't changed and isn't kept; what is told is the asker's own."""

import unittest

from samples import LENGTHS, refusal_of, rows_of
from signsums.errors import NoRow
from signsums.flat import flat, is_flat
from signsums.notes import read, shown
from signsums.straight import distance, nearest, straight
from signsums.sums import back, sums
from signsums.woven import halved, tied, woven


def answered_calls():
    """Calls that tell a list, with the lists they are handed, each list fresh."""
    calls = [(flat, [0]), (flat, [2]), (flat, [4])]
    for steps, length in enumerate(LENGTHS):
        row = rows_of(length)[4]
        calls.append((sums, [list(row)]))
        calls.append((back, [[length * number for number in row]]))
        calls.append((woven, [list(row), rows_of(length)[3]]))
        calls.append((tied, [list(row), [2] * (32 // length)]))
        calls.append((tied, [list(row), [1]]))
        calls.append((tied, [[1], list(row)]))
        if length > 1:
            calls.append((halved, [list(row), 0, 0]))
            calls.append((halved, [list(row), 0, 1]))
        calls.append((straight, [steps, length - 1, False]))
        calls.append((straight, [steps, 0, True]))
        calls.append((read, [" ".join(str(number) for number in row)]))
    return calls


def listless_calls():
    """Calls that are handed lists and tell something else."""
    calls = []
    for length in LENGTHS:
        row = rows_of(length)[4]
        calls.append((distance, [list(row), [1] * length]))
        calls.append((nearest, [list(row)]))
        calls.append((is_flat, [list(row)]))
        calls.append((shown, [list(row)]))
    return calls


def refused_calls():
    return [
        (sums, [[1, 2, 3]]),
        (back, [[1, 2]]),
        (woven, [[1, 2], [1, 2, 3, 4]]),
        (woven, [[1, 2], [1, 2, 3]]),
        (tied, [[1] * 16, [1] * 4]),
        (halved, [[1, 2], 1, 0]),
        (halved, [[1, 2], 0, 2]),
        (distance, [[1, 2, 3], [1, 2]]),
        (distance, [[1, 1], [1]]),
        (distance, [[1, -1], [1, 0]]),
        (nearest, [[1, 1, 1]]),
        (nearest, [[1, 2]]),
        (is_flat, [[1, 1, 1]]),
        (is_flat, [[1, 2]]),
        (shown, [[1, 2, 3]]),
    ]


def copied(arguments):
    return [list(argument) if isinstance(argument, list) else argument for argument in arguments]


class TestOwnLists(unittest.TestCase):
    def test_what_is_handed_in_stays_as_it_is(self):
        for call, arguments in answered_calls() + listless_calls():
            before = copied(arguments)
            call(*arguments)
            self.assertEqual(arguments, before)

    def test_what_is_handed_in_stays_as_it_is_where_it_is_refused(self):
        for call, arguments in refused_calls():
            before = copied(arguments)
            self.assertIsNotNone(refusal_of(call, *arguments))
            self.assertEqual(arguments, before)

    def test_what_is_told_is_a_list_that_nobody_else_has(self):
        for call, arguments in answered_calls():
            told = call(*arguments)
            again = call(*arguments)
            self.assertIs(told.__class__, list)
            self.assertIsNot(told, again)
            for argument in arguments:
                self.assertIsNot(told, argument)

    def test_what_was_told_may_be_changed(self):
        for call, arguments in answered_calls():
            told = call(*arguments)
            expected = list(told)
            told[0] += 1
            told.append(99)
            self.assertEqual(call(*arguments), expected)
            told.clear()
            self.assertEqual(call(*arguments), expected)

    def test_what_was_handed_in_may_be_changed(self):
        for call, arguments in answered_calls():
            fresh = copied(arguments)
            told = call(*arguments)
            expected = list(told)
            for argument in arguments:
                if isinstance(argument, list):
                    argument.clear()
            self.assertEqual(told, expected)
            self.assertEqual(call(*fresh), expected)

    def test_what_was_handed_in_may_be_changed_where_no_list_is_told(self):
        for call, arguments in listless_calls():
            fresh = copied(arguments)
            told = call(*arguments)
            for argument in arguments:
                argument.clear()
            self.assertEqual(call(*fresh), told)

    def test_a_list_that_was_changed_is_asked_anew(self):
        for length in LENGTHS:
            row = [1] * length
            self.assertEqual(nearest(row), (0, False, 0))
            self.assertEqual(distance(row, [1] * length), 0)
            self.assertIs(is_flat(row), length == 1)
            self.assertEqual(shown(row), " ".join(["1"] * length))
            for place in range(length):
                row[place] = -1
            self.assertEqual(nearest(row), (0, True, 0))
            self.assertEqual(distance(row, [1] * length), length)
            self.assertEqual(shown(row), " ".join(["-1"] * length))
            row.append(1)
            row.append(1)
            if len(row) not in LENGTHS:
                self.assertIs(refusal_of(shown, row), NoRow)

    def test_the_same_list_may_be_handed_in_twice(self):
        row = [1, 1, 1, -1]
        self.assertEqual(distance(row, row), 0)
        self.assertEqual(row, [1, 1, 1, -1])
        row = [1, 2, 3, 4]
        self.assertEqual(woven(row, row), [30, 28, 22, 20])
        self.assertEqual(tied(row, row), [1, 2, 3, 4, 2, 4, 6, 8, 3, 6, 9, 12, 4, 8, 12, 16])
        self.assertEqual(row, [1, 2, 3, 4])


if __name__ == "__main__":
    unittest.main()
