import unittest

from samples import REFUSALS, refusal_of
from signsums import errors
from signsums.errors import NoMatch, NoRow, NoStep, NoSums, SignError, TooLong
from signsums.sums import back, sums
from signsums.woven import halved, tied, woven


class TestClasses(unittest.TestCase):
    def test_sign_error_stands_straight_under_value_error(self):
        self.assertEqual(SignError.__bases__, (ValueError,))

    def test_each_refusal_stands_straight_under_sign_error(self):
        for refusal in REFUSALS:
            with self.subTest(refusal=refusal):
                self.assertEqual(refusal.__bases__, (SignError,))

    def test_the_names_are_there(self):
        names = ["NoRow", "NoSums", "NoMatch", "TooLong", "NoStep", "NoSigns", "NoChoice", "NoFlat", "NoNote"]
        self.assertEqual([getattr(errors, name) for name in names], list(REFUSALS))
        self.assertEqual([refusal.__name__ for refusal in REFUSALS], names)
        self.assertEqual(len(set(REFUSALS)), 9)

    def test_none_of_them_is_of_another(self):
        for refusal in REFUSALS:
            error = refusal("why")
            self.assertIsInstance(error, SignError)
            self.assertIsInstance(error, ValueError)
            self.assertEqual([kind for kind in REFUSALS if isinstance(error, kind)], [refusal])


class TestRaised(unittest.TestCase):
    def test_what_is_raised_is_of_its_own_class(self):
        cases = [
            (NoRow, sums, []),
            (NoRow, back, []),
            (NoSums, back, [1, 0]),
            (NoMatch, woven, [1], [1, 2]),
            (TooLong, tied, [1] * 8, [1] * 8),
            (NoStep, halved, [1], 0, 0),
        ]
        for refusal, call, *arguments in cases:
            with self.subTest(refusal=refusal, call=call.__name__):
                self.assertIs(refusal_of(call, *arguments), refusal)
                with self.assertRaises(SignError):
                    call(*arguments)
                with self.assertRaises(ValueError):
                    call(*arguments)


if __name__ == "__main__":
    unittest.main()
