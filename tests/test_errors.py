import unittest

from samples import REFUSALS, WRONG_ROWS, refusal_of
from signsums import errors
from signsums.errors import (
    NoChoice, NoFlat, NoMatch, NoNote, NoRow, NoSigns, NoStep, NoSums, SignError, TooLong,
)
from signsums.flat import flat, is_flat
from signsums.notes import read, shown
from signsums.straight import distance, nearest, straight
from signsums.sums import back, sums
from signsums.woven import halved, tied, woven


class TestClasses(unittest.TestCase):
    def test_sign_error_stands_straight_under_value_error(self):
        self.assertEqual(SignError.__bases__, (ValueError,))

    def test_each_refusal_stands_straight_under_sign_error(self):
        for refusal in REFUSALS:
            with self.subTest(refusal=refusal):
                self.assertEqual(refusal.__bases__, (SignError,))

    def test_the_names_are_there(self):
        names = ["NoRow", "NoSums", "NoMatch", "TooLong", "NoStep", "NoSigns", "NoChoice", "NoFlat", "NoNote"]
        self.assertEqual([getattr(errors, name) for name in names], list(REFUSALS))
        self.assertEqual([refusal.__name__ for refusal in REFUSALS], names)
        self.assertEqual(len(set(REFUSALS)), 9)

    def test_none_of_them_is_of_another(self):
        for refusal in REFUSALS:
            error = refusal("why")
            self.assertIsInstance(error, SignError)
            self.assertIsInstance(error, ValueError)
            self.assertEqual([kind for kind in REFUSALS if isinstance(error, kind)], [refusal])


class TestRaised(unittest.TestCase):
    def test_what_is_raised_is_of_its_own_class(self):
        cases = [
            (NoRow, sums, []),
            (NoRow, back, []),
            (NoSums, back, [1, 0]),
            (NoMatch, woven, [1], [1, 2]),
            (TooLong, tied, [1] * 8, [1] * 8),
            (NoStep, halved, [1], 0, 0),
            (NoStep, straight, 6, 0, False),
            (NoChoice, straight, 0, 1, False),
            (NoRow, distance, [], [1]),
            (NoMatch, distance, [1], [1, 1]),
            (NoSigns, distance, [1], [0]),
            (NoRow, nearest, []),
            (NoSigns, nearest, [0]),
            (NoRow, is_flat, []),
            (NoSigns, is_flat, [0]),
            (NoStep, flat, 6),
            (NoFlat, flat, 1),
            (NoRow, shown, []),
            (NoNote, read, ""),
        ]
        for refusal, call, *arguments in cases:
            with self.subTest(refusal=refusal, call=call.__name__):
                self.assertIs(refusal_of(call, *arguments), refusal)
                with self.assertRaises(SignError):
                    call(*arguments)
                with self.assertRaises(ValueError):
                    call(*arguments)


class TestOrder(unittest.TestCase):
    """The head of the interface: NoRow first, then the others in the order of the document."""

    def test_no_row_first_in_every_function_that_is_handed_one(self):
        # Beside the wrong row stands all that could be refused otherwise.
        for row in WRONG_ROWS:
            for call in (sums, back, nearest, is_flat, shown):
                self.assertIs(refusal_of(call, row), NoRow)
            for call in (woven, tied, distance):
                for other in ([5], [5, 0], [5] * 32, [5] * 33, [], [10 ** 29]):
                    self.assertIs(refusal_of(call, row, other), NoRow)
                    self.assertIs(refusal_of(call, other, row), NoRow)
            self.assertIs(refusal_of(halved, row, -1, 2), NoRow)

    def test_the_others_in_their_order(self):
        cases = [
            (NoMatch, distance, [0], [0, 0]),
            (NoMatch, distance, [1], [1, 2]),
            (NoMatch, distance, [2, 1], [1]),
            (NoStep, straight, -1, -1, True),
            (NoStep, straight, 6, 64, True),
            (NoStep, flat, -1),
            (NoStep, flat, 7),
        ]
        for refusal, call, *arguments in cases:
            with self.subTest(call=call.__name__, arguments=arguments):
                self.assertIs(refusal_of(call, *arguments), refusal)


if __name__ == "__main__":
    unittest.main()
