"""Flat sign rows: those whose sums are all as great as one another but for their signs."""

from signsums.errors import NoFlat
from signsums.rows import check_row, check_signs, check_steps, steps_of
from signsums.sums import sums
from signsums.woven import tied


def is_flat(row):
    check_row(row)
    check_signs(row)
    sizes = [abs(number) for number in sums(row)]
    return min(sizes) == max(sizes)


def flat(steps):
    check_steps(steps)
    if steps % 2 == 1:
        raise NoFlat("no sign row of 1, 3 or 5 steps is flat")
    # Tied flat rows are flat, so the flat row of two steps leads to the longer ones.
    row = [1]
    while steps_of(row) < steps:
        row = tied(row, [1, 1, 1, -1])
    return row
