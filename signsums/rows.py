"""What all rows have in common: their form, their steps, the signs of their places."""

from signsums.errors import NoRow

LENGTHS = (1, 2, 4, 8, 16, 32)
# 10 ** 20, written out because a file's top holds plain values alone.
GREATEST = 100000000000000000000


def check_row(row):
    if len(row) not in LENGTHS:
        raise NoRow("a row has 1, 2, 4, 8, 16 or 32 numbers")
    for number in row:
        if abs(number) > GREATEST:
            raise NoRow("a number of a row is from -10 ** 20 to 10 ** 20")


def steps_of(row):
    # A row's length is a power of two, so its binary form is one figure longer than its steps.
    return len(row).bit_length() - 1


def meets_evenly(one, other):
    shared = one & other
    even = True
    while shared > 0:
        if shared % 2 == 1:
            even = not even
        shared = shared // 2
    return even
