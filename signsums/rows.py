"""What all rows have in common: their form, their steps, the signs of their places."""

from signsums.errors import NoMatch, NoRow, NoSigns, NoStep

LENGTHS = (1, 2, 4, 8, 16, 32)
# 10 ** 20, written out because a file's top holds plain values alone.
GREATEST = 100000000000000000000


def is_row(numbers):
    return len(numbers) in LENGTHS and all([abs(number) <= GREATEST for number in numbers])


def check_row(row):
    if not is_row(row):
        raise NoRow("a row has 1, 2, 4, 8, 16 or 32 numbers, each from -10 ** 20 to 10 ** 20")


def check_match(one, other):
    if len(one) != len(other):
        raise NoMatch("the two rows are not as long as one another")


def check_signs(row):
    if any([number not in (1, -1) for number in row]):
        raise NoSigns("a sign row has numbers 1 and -1 alone")


def check_steps(steps):
    if not 0 <= steps < len(LENGTHS):
        raise NoStep("a row has from 0 to 5 steps")


def steps_of(row):
    # A row's length is a power of two, so its binary form is one figure longer than its steps.
    return len(row).bit_length() - 1


def meets_evenly(one, other):
    shared = one & other
    even = True
    while shared > 0:
        if shared % 2 == 1:
            even = not even
        shared = shared // 2
    return even
