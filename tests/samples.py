"""Rows to try, and plain second ways to the answers, built otherwise than the program's."""

import itertools
import re

from signsums.errors import (
    NoChoice, NoFlat, NoMatch, NoNote, NoRow, NoSigns, NoStep, NoSums, TooLong,
)

LENGTHS = (1, 2, 4, 8, 16, 32)
GREATEST = 10 ** 20
REFUSALS = (NoRow, NoSums, NoMatch, TooLong, NoStep, NoSigns, NoChoice, NoFlat, NoNote)

WRONG_ROWS = (
    [[1] * length for length in range(71) if length not in LENGTHS]
    + [[GREATEST + 1], [-GREATEST - 1], [10 ** 30 - 1], [1 - 10 ** 30]]
    + [[0] * (length - 1) + [number] for length in LENGTHS for number in (GREATEST + 1, -GREATEST - 1)]
    + [[number] + [0] * (length - 1) for length in LENGTHS for number in (GREATEST + 1, -GREATEST - 1)]
)

# Rows, but no sign rows: another number at the first, a middle and the last place.
SIGNLESS_ROWS = [
    [number if here == place else 1 for here in range(length)]
    for length in LENGTHS
    for place in sorted({0, length // 2, length - 1})
    for number in (0, 2, -2, 3, -3, GREATEST, -GREATEST)
] + [[0] * length for length in LENGTHS]


def scattered(length, seed, least, greatest):
    """Numbers from least to greatest without an order to be seen, the same in each run."""
    numbers = []
    state = seed
    for place in range(length):
        state = (state * 6364136223846793005 + 1442695040888963407) % 2 ** 128
        numbers.append(least + (state >> 40) % (greatest - least + 1))
    return numbers


def sign_rows(length):
    found = [[1] * length, [-1] * length]
    for seed in range(3):
        found.append([1 if number else -1 for number in scattered(length, seed, 0, 1)])
    return found


def all_sign_rows(length):
    return [list(row) for row in itertools.product((1, -1), repeat=length)]


def many_sign_rows(length):
    """Each sign row where they are few; else some without an order, and each straight row with few signs turned."""
    if length <= 8:
        return all_sign_rows(length)
    found = [[1 if number else -1 for number in scattered(length, seed, 0, 1)] for seed in range(60)]
    for choice, line in enumerate(signs(length)):
        for sign in (1, -1):
            for count in range(0, length // 2, 3):
                spoilt = {(choice * 5 + 7 * turn) % length for turn in range(count)}
                found.append([-sign * here if place in spoilt else sign * here for place, here in enumerate(line)])
    return found


def small_rows(length):
    units = [[1 if place == at else 0 for place in range(length)] for at in range(length)]
    mixed = [scattered(length, seed, -9, 9) for seed in range(3)]
    return [[0] * length, list(range(1, length + 1)), list(range(0, -length, -1))] + units + mixed


def great_rows(length):
    mixed = [scattered(length, seed, -GREATEST, GREATEST) for seed in range(3)]
    edges = [GREATEST if place % 3 else -GREATEST for place in range(length)]
    return [[GREATEST] * length, [-GREATEST] * length, edges] + mixed


def rows_of(length):
    return sign_rows(length) + small_rows(length) + great_rows(length)


def signs(length):
    """The signs by each choice, built by doubling: below an equal pair, a pair with the second turned."""
    table = [[1]]
    while len(table) < length:
        table = [line + line for line in table] + [line + [-sign for sign in line] for line in table]
    return table


def sums_by_table(row):
    return [sum(sign * number for sign, number in zip(line, row)) for line in signs(len(row))]


def distance_by_places(one, other):
    return len([place for place in range(len(one)) if one[place] != other[place]])


def nearest_by_walk(row):
    """Each straight row in the order of preference; only one that is nearer takes the place of one before."""
    best = None
    for choice, line in enumerate(signs(len(row))):
        for turned in (False, True):
            off = distance_by_places(row, [-sign for sign in line] if turned else line)
            if best is None or off < best[2]:
                best = (choice, turned, off)
    return best


def row_by_pattern(text):
    """The row that the text writes; None where it writes none."""
    if re.fullmatch(r"(0|-?[1-9][0-9]*)( (0|-?[1-9][0-9]*))*", text) is None:
        return None
    row = [int(word) for word in text.split()]
    if len(row) not in LENGTHS or max(row) > GREATEST or min(row) < -GREATEST:
        return None
    return row


def powers_in(number):
    return {power for power in (1, 2, 4, 8, 16) if number // power % 2 == 1}


def woven_by_pairs(one, other):
    found = [0] * len(one)
    for here, first in enumerate(one):
        for there, second in enumerate(other):
            found[sum(powers_in(here) ^ powers_in(there))] += first * second
    return found


def tied_by_pairs(one, other):
    found = [None] * (len(one) * len(other))
    for here, first in enumerate(one):
        for there, second in enumerate(other):
            found[here + there * len(one)] = first * second
    return found


def refusal_of(call, *arguments):
    """The very class of what the call raises; None where it answers."""
    try:
        call(*arguments)
    except Exception as error:
        return error.__class__
    return None
