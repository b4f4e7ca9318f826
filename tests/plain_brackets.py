"""Rows as plain dicts, and brackets worked out otherwise than in the package: by ends, and by places that hang together."""

from functools import lru_cache
from itertools import product

from tests.plain import all_ends, classes, joined_ends
from tests.plain_webs import lots_of, subsets

SMOOTHINGS = (((0, 1), (2, 3)), ((1, 2), (3, 0)))


def plus(one, other):
    told = {exponent: one.get(exponent, 0) + other.get(exponent, 0) for exponent in list(one) + list(other)}
    return {exponent: many for exponent, many in told.items() if many}


def times(one, other):
    told = {}
    for (a, many) in one.items():
        for (b, more) in other.items():
            told = plus(told, {a + b: many * more})
    return told


def circles_to(count):
    """The row of -x^2 - x^-2 to the power of a count, term by term."""
    told = {0: 1}
    for _ in range(count):
        told = times(told, {-2: -1, 2: -1})
    return told


def circle_groups(crossings, smoothing):
    """The ends on each circle that has strands."""
    pairs = [((i, p), (i, q)) for i, way in enumerate(smoothing) for p, q in SMOOTHINGS[way]]
    return classes(all_ends(crossings), joined_ends(crossings) + pairs)


def sum_over(states):
    """The sum of rows over pairs of a weight and a number of circles."""
    counted, total = {}, {}
    for state in states:
        counted[state] = counted.get(state, 0) + 1
    for (weight, count), many in counted.items():
        total = plus(total, times({weight: many}, circles_to(count - 1)))
    return total


@lru_cache(maxsize=None)
def plain_bracket(crossings, rings):
    """The bracket, by all smoothings."""
    smoothings = product((0, 1), repeat=len(crossings))
    return sum_over((smoothing.count(0) - smoothing.count(1), rings + len(circle_groups(crossings, smoothing)))
                    for smoothing in smoothings)


@lru_cache(maxsize=None)
def plain_row_of_web(many, ties):
    """The row of a web, by all choices of ties."""
    states = []
    for choice in subsets(len(ties)):
        weight = sum(sign if tie in choice else -sign for tie, (_, _, sign) in enumerate(ties))
        states.append((weight, 2 * len(lots_of(many, [ties[tie] for tie in choice])) + len(choice) - many))
    return sum_over(states)
