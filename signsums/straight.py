"""Straight rows, the distance of two sign rows, and the straight row nearest to a sign row."""

from signsums.errors import NoChoice
from signsums.rows import LENGTHS, check_match, check_row, check_signs, check_steps, meets_evenly
from signsums.sums import sums


def straight(steps, choice, turned):
    check_steps(steps)
    length = LENGTHS[steps]
    if not 0 <= choice < length:
        raise NoChoice("a choice is from nought to the last place")
    plus = -1 if turned else 1
    return [plus if meets_evenly(place, choice) else -plus for place in range(length)]


def distance(one, other):
    check_row(one)
    check_row(other)
    check_match(one, other)
    check_signs(one)
    check_signs(other)
    return sum([1 for first, second in zip(one, other) if first != second])


def nearest(row):
    check_row(row)
    check_signs(row)
    length = len(row)
    # The distance stands ahead, then the choice, then the turn: so the least of
    # these is the one that the document picks among several of least distance.
    found = []
    for choice, number in enumerate(sums(row)):
        found.append(((length - number) // 2, choice, False))
        found.append(((length + number) // 2, choice, True))
    least = min(found)
    return (least[1], least[2], least[0])
