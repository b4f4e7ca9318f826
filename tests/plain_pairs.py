"""Pairings, weights and signatures worked out otherwise than in the package: out of all tuples of corners, and by roots."""

from fractions import Fraction
from functools import lru_cache
from itertools import product

from tests.plain import all_ends, joined_ends, rim_classes
from tests.plain_brackets import plus, times


@lru_cache(maxsize=None)
def plain_pairings(crossings, strand):
    """All pairings, ascending: tuples of corners of which each other rim has just one."""
    (i, p), _ = [pair for pair in joined_ends(crossings) if crossings[pair[0][0]][pair[0][1]] == strand][0]
    beside = {(i, p), (i, (p - 1) % 4)}
    rims = [rim for rim in rim_classes(crossings) if not rim & beside]
    return [told for told in product(range(4), repeat=len(crossings))
            if all(len(rim & set(enumerate(told))) == 1 for rim in rims)]


def dark_corners(crossings):
    """The corners of the colour of the corner 0 of crossing 0, by going from rim to rim across corners of one crossing."""
    rims = rim_classes(crossings)
    dark = {(0, 0)}
    while True:
        more = set(dark)
        for i, p in dark:
            more |= next(rim for rim in rims if (i, p) in rim) | {(i, (p + 2) % 4)}
        if more == dark:
            return dark
        dark = more


def turns_between(pairings):
    """By pairings, the pairs of crossings and the pairings that one clock turn leads to."""
    told = {pairing: {} for pairing in pairings}
    for one in pairings:
        for other in pairings:
            changed = tuple(at for at in range(len(one)) if one[at] != other[at])
            if len(changed) == 2 and all(other[at] == (one[at] - 1) % 4 for at in changed):
                told[one][changed] = other
    return told


def plain_weights(course):
    """By corners, their weights as dicts: by the ends at which one comes in."""
    into = {end for ends in course.ends_in for end in ends}
    told = {}
    for (i, p) in all_ends(course.drawing.crossings):
        sign, both = course.signs[i], ((i, p) in into) + ((i, (p + 1) % 4) in into)
        told[i, p] = ({-sign: -1}, {0: 1}, {sign: 1})[both]
    return told


def plain_alexander(course, strand):
    """Alexander's row, as a dict."""
    weights, total = plain_weights(course), {}
    for pairing in plain_pairings(course.drawing.crossings, strand):
        row = {0: 1}
        for corner in enumerate(pairing):
            row = times(row, weights[corner])
        total = plus(total, row)
    return total


def roots_told(table):
    """The coefficients of the polynomial whose roots are those of a table, the greatest power first."""
    many = len(table)
    told, rows = [Fraction(1)], [[Fraction(0)] * many for _ in range(many)]
    for step in range(1, many + 1):
        for at in range(many):
            rows[at][at] += told[-1]
        rows = [[sum(table[i][k] * rows[k][j] for k in range(many)) for j in range(many)] for i in range(many)]
        told.append(-sum(rows[at][at] for at in range(many)) / step)
    return told


def plain_signature_of(table):
    """The roots above 0 less those below 0; all roots are real, so changes of signs tell how many there are."""
    def changes(numbers):
        left = [number for number in numbers if number]
        return sum((one > 0) != (other > 0) for one, other in zip(left, left[1:]))

    told = roots_told(table)
    return changes(told) - changes([number * (-1) ** at for at, number in enumerate(told)])
