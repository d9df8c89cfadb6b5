"""Rows written as texts, and read from them."""

from signsums.errors import NoNote
from signsums.rows import GREATEST, check_row, is_row

FIGURES = "0123456789"


def shown(row):
    check_row(row)
    return " ".join([str(number) for number in row])


def read(text):
    words = text.split(" ")
    if not all([writes_number(word) for word in words]):
        raise NoNote("a note is numbers with one blank between two")
    numbers = [int(word) for word in words]
    if not is_row(numbers):
        raise NoNote("the numbers of this note are no row")
    return numbers


def writes_number(word):
    if word == "0":
        return True
    figures = word[1:] if word.startswith("-") else word
    # Longer words are no number of a row, and Python itself bounds the texts it turns into numbers.
    if not 0 < len(figures) <= len(str(GREATEST)):
        return False
    return figures[0] != "0" and all([sign in FIGURES for sign in figures])
