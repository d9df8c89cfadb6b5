import itertools
import unittest

from samples import GREATEST, LENGTHS, WRONG_ROWS, refusal_of, row_by_pattern, rows_of
from signsums.errors import NoNote, NoRow
from signsums.notes import read, shown

# Each sign that a text may have.
SIGNS = ["\t", "\n"] + [chr(number) for number in range(32, 127) if chr(number) != "%"]

NO_NUMBERS = (
    "", "-", "--", "--1", "---1", "1-", "1-1", "-1-", "- 1", "-0", "--0", "-00", "00", "01", "-01", "0001", "007",
    "+0", "+1", "+-1", "-+1", "1+", "a", "1a", "a1", "x1", "0x1", "0b1", "0o7", "1e3", "1E3", "1.0", "1.", ".5", "1,2",
    "1;2", "1_0", "_1", "1_", "1__0", "1_000", "\t", "\n", "1\t", "\t1", "1\n", "\n1", "1\t2", "1\n2", "\t1\n",
    "one", "None", "True", "nan", "inf", "[1]", "(1)", "'1'", "\"1\"", "#1", "1#", "~1", "!1", "1/1", "1*1", "2**3",
)


class TestShown(unittest.TestCase):
    """Point [13], how a row is written."""

    def test_by_hand(self):
        self.assertEqual(shown([0]), "0")
        self.assertEqual(shown([-7]), "-7")
        self.assertEqual(shown([10, -2, -4, 0]), "10 -2 -4 0")
        self.assertEqual(shown([GREATEST, -GREATEST]), "1" + "0" * 20 + " -1" + "0" * 20)
        self.assertEqual(shown([1] * 32), "1 " * 31 + "1")

    def test_it_writes_the_row(self):
        for length in LENGTHS:
            for row in rows_of(length):
                text = shown(row)
                self.assertIs(text.__class__, str)
                self.assertEqual(row_by_pattern(text), row)

    def test_the_longest_is_a_text(self):
        text = shown([-GREATEST] * 32)
        self.assertEqual(len(text), 735)
        self.assertEqual(read(text), [-GREATEST] * 32)

    def test_another_list_is_no_row(self):
        for row in WRONG_ROWS:
            with self.subTest(row=row):
                self.assertIs(refusal_of(shown, row), NoRow)


class TestRead(unittest.TestCase):
    """Point [13], which texts write a row."""

    def test_by_hand(self):
        self.assertEqual(read("0"), [0])
        self.assertEqual(read("-7"), [-7])
        self.assertEqual(read("10 -2 -4 0"), [10, -2, -4, 0])
        self.assertEqual(read("0 0"), [0, 0])
        self.assertEqual(read("100 -100"), [100, -100])

    def test_what_was_shown_is_read(self):
        for length in LENGTHS:
            for row in rows_of(length):
                told = read(shown(row))
                self.assertEqual(told, row)
                self.assertIs(told.__class__, list)
                self.assertEqual({number.__class__ for number in told}, {int})

    def test_words_that_are_no_numbers(self):
        for word in NO_NUMBERS:
            for text in (word, word + " 5", "5 " + word, "1 " + word + " 2 3"):
                with self.subTest(text=text):
                    self.assertIs(refusal_of(read, text), NoNote)

    def test_blanks_at_an_end_or_doubled(self):
        for text in (" ", "  ", " 1", "1 ", " 1 ", "1  2", " 1 2", "1 2 ", "1 2  3 4", "1 2 3 4 ", "1   2", " " * 31):
            with self.subTest(text=text):
                self.assertIs(refusal_of(read, text), NoNote)

    def test_each_sign_at_each_place(self):
        for sign in SIGNS:
            for text in (sign, sign + "1 2", "1" + sign + "2", "1 " + sign + "2", "1 2" + sign, "-" + sign + " 2"):
                with self.subTest(text=text):
                    self.check(text)

    def test_all_short_texts_of_some_signs(self):
        for length in range(6):
            for signs in itertools.product("012- +_", repeat=length):
                self.check("".join(signs))

    def check(self, text):
        expected = row_by_pattern(text)
        if expected is None:
            self.assertIs(refusal_of(read, text), NoNote, repr(text))
        else:
            self.assertEqual(read(text), expected, repr(text))

    def test_how_many_numbers(self):
        for count in range(1, 71):
            for word in ("0", "-1", "25"):
                text = " ".join([word] * count)
                if count in LENGTHS:
                    self.assertEqual(read(text), [int(word)] * count)
                else:
                    self.assertIs(refusal_of(read, text), NoNote)

    def test_numbers_at_the_bound_and_beyond(self):
        for length in LENGTHS:
            for place in (0, length // 2, length - 1):
                for number in (GREATEST, -GREATEST, GREATEST - 1, 1 - GREATEST):
                    row = [number if here == place else 0 for here in range(length)]
                    self.assertEqual(read(" ".join(str(number) for number in row)), row)
                for number in (GREATEST + 1, -GREATEST - 1, 2 * GREATEST, 10 ** 21, -10 ** 21, 10 ** 30 - 1):
                    row = [number if here == place else 0 for here in range(length)]
                    self.assertIs(refusal_of(read, " ".join(str(number) for number in row)), NoNote)

    def test_noughts_ahead_of_numbers_at_the_bound(self):
        for text in ("0" + str(GREATEST), "-0" + str(GREATEST), "0" * 20 + "1", "-" + "0" * 20 + "1", "0" * 21):
            self.assertIs(refusal_of(read, text), NoNote)

    def test_long_texts(self):
        # Up to the longest text, and beyond: each writes no row, and Python's own bound on figures isn't met.
        for length in (736, 799, 800, 801, 900, 5000):
            for text in ("9" * length, "-" + "9" * (length - 1), "0" * length, " " * length, "-" * length,
                         "a" * length, "1 " * (length // 2), "1 " + "9" * (length - 2), "\n" * length):
                with self.subTest(text=text[:5], length=length):
                    self.assertIs(refusal_of(read, text), NoNote)


if __name__ == "__main__":
    unittest.main()
