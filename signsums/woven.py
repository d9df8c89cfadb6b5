"""Rows made of other rows: woven, tied, halved."""

from signsums.errors import NoStep, TooLong
from signsums.rows import LENGTHS, check_match, check_row, steps_of


def woven(one, other):
    check_row(one)
    check_row(other)
    check_match(one, other)
    return [woven_at(one, other, place) for place in range(len(one))]


def woven_at(one, other, exclusive):
    # A place and its exclusive with another give that other, so each place of the one has one partner.
    return sum([number * other[place ^ exclusive] for place, number in enumerate(one)])


def tied(one, other):
    check_row(one)
    check_row(other)
    width = len(one)
    length = width * len(other)
    if length > max(LENGTHS):
        raise TooLong("a tied row has at most 32 numbers")
    return [one[place % width] * other[place // width] for place in range(length)]


def halved(row, step, half):
    check_row(row)
    if not 0 <= step < steps_of(row):
        raise NoStep("a step is from nought to the row's steps less one")
    if half not in (0, 1):
        raise NoStep("a half is 0 or 1")
    return [number for place, number in enumerate(row) if (place >> step) % 2 == half]
