"""The sums of a row by each choice of signs, and the way back from them."""

from signsums.errors import NoSums
from signsums.rows import check_row, meets_evenly


def sums(row):
    check_row(row)
    return [sum_by(row, choice) for choice in range(len(row))]


def sum_by(row, choice):
    return sum([number if meets_evenly(place, choice) else -number for place, number in enumerate(row)])


def back(row):
    # The sums of the sums are the row, each number times the length: so the one
    # row that can be meant is found by dividing, and it is whole or there is none.
    length = len(row)
    multiples = sums(row)
    if any([multiple % length != 0 for multiple in multiples]):
        raise NoSums("these are the sums of no row")
    return [multiple // length for multiple in multiples]
