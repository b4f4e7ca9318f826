"""Drawings, webs, shades and wrong values that several tests use."""

from itertools import permutations, product

from crosswebs.base.rows import Row
from crosswebs.draw.courses import Course
from crosswebs.draw.drawings import Drawing
from crosswebs.errors import InvalidDrawing, InvalidNumber, ParseError
from crosswebs.use.bench import Bench
from crosswebs.webs.shades import Shade
from crosswebs.webs.webs import Web
from tests.plain import is_flat, tables

RING, CURL = Drawing(rings=1), Drawing(((0, 0, 1, 1),))
LINKED = Drawing(((0, 1, 2, 3), (1, 0, 3, 2)))
KNOT = Drawing(((0, 1, 2, 3), (4, 0, 3, 5), (1, 4, 5, 2)))
EIGHT = Drawing(((0, 1, 2, 3), (4, 5, 1, 0), (6, 4, 3, 7), (5, 6, 7, 2)))


def twisted(many):
    """The crossings of two strings, or one, that are twisted round one another."""
    ends = 2 * many
    return tuple((2 * i, 2 * i + 1, (2 * i + 3) % ends, (2 * i + 2) % ends) for i in range(many))


def curls(many):
    """The crossings of so many curls beside one another."""
    return tuple((2 * i, 2 * i, 2 * i + 1, 2 * i + 1) for i in range(many))


def shuffled(crossings):
    """The same crossings, in another order, with other numbers of strands."""
    ends = 2 * len(crossings)
    return tuple(tuple(ends - 1 - strand for strand in crossing) for crossing in reversed(crossings))


def curled(crossings, at, number):
    """The crossings with a curl more, in the strand from an end on."""
    strand, ends = crossings[at][number], 2 * len(crossings)
    rows = [list(crossing) for crossing in crossings]
    rows[at][number] = ends
    rows.append([ends, ends + 1, ends + 1, strand])
    return tuple(tuple(row) for row in rows)


TWO_PIECES = Drawing(((0, 0, 1, 1), (2, 3, 4, 5), (3, 2, 5, 4)), rings=1)
WOVEN = Drawing(((3, 0, 1, 4), (5, 5, 2, 2), (0, 3, 4, 1)))
NINE = Drawing(twisted(9))
SAMPLES = [
    RING, CURL, LINKED, KNOT, EIGHT, TWO_PIECES, WOVEN, NINE,
    Drawing(rings=9), Drawing(curls(9), rings=9), Drawing(twisted(8)), Drawing(shuffled(twisted(7))),
    Drawing(shuffled(EIGHT.crossings)), Drawing(((1, 1, 0, 0),), rings=2), Drawing(((0, 1, 1, 0),)),
    Drawing(curled(KNOT.crossings, 1, 2)), Drawing(curled(curled(LINKED.crossings, 0, 1), 2, 2)),
    Drawing(((0, 0, 1, 2), (2, 1, 3, 3))), Drawing(KNOT.crossings + ((6, 6, 7, 7),)),
]
SMALL = [Drawing(crossings) for many in (1, 2) for crossings in tables(many) if is_flat(crossings)]
# Drawings to which moves lead: with rims of one, two and three corners, in one piece and in several ones.
REACHED = [
    Drawing(((0, 1, 2, 3), (0, 3, 4, 1), (2, 4, 5, 5))),
    Drawing(((0, 1, 2, 3), (4, 0, 3, 5), (6, 7, 5, 2), (4, 8, 9, 1), (9, 8, 7, 6))),
    Drawing(((1, 2, 3, 0), (4, 0, 3, 5), (1, 4, 5, 2))),
    Drawing(((0, 0, 1, 2), (3, 3, 4, 5), (5, 6, 7, 1), (7, 6, 4, 2))),
    Drawing(((0, 1, 2, 3), (1, 4, 5, 2), (5, 4, 0, 3)), rings=8),
    Drawing(((0, 1, 2, 3), (4, 1, 0, 5), (4, 6, 7, 2), (7, 6, 5, 3))),
    Drawing(((0, 1, 2, 3), (4, 5, 2, 1), (4, 0, 3, 5), (6, 7, 7, 6)), rings=9),
    Drawing(((0, 1, 2, 3), (4, 5, 1, 4), (6, 7, 0, 6), (3, 8, 9, 7), (9, 8, 2, 5)), rings=8),
    Drawing(((0, 1, 2, 3), (4, 5, 6, 7), (0, 8, 5, 9), (10, 11, 2, 10), (1, 9, 4, 7), (3, 11, 6, 8))),
    Drawing(((0, 1, 2, 3), (4, 5, 6, 1), (7, 8, 3, 9), (10, 9, 2, 11), (0, 8, 5, 4), (6, 12, 13, 11), (13, 12, 7, 10))),
    Drawing(((0, 1, 2, 2), (3, 4, 5, 6), (4, 3, 6, 7), (1, 8, 9, 7), (9, 8, 0, 10), (10, 5, 11, 11), (12, 13, 13, 12))),
    Drawing(((0, 0, 1, 1), (2, 3, 4, 5), (3, 2, 5, 6), (6, 4, 7, 8), (9, 10, 11, 12), (8, 13, 13, 7), (11, 14, 15, 12),
             (15, 14, 10, 9))),
    Drawing(((0, 1, 2, 3), (4, 5, 6, 7), (8, 6, 9, 10), (3, 11, 4, 12), (13, 10, 14, 0), (8, 13, 15, 16), (5, 11, 2, 9),
             (7, 16, 15, 12), (17, 1, 14, 17))),
    Drawing(((0, 1, 2, 3), (4, 5, 6, 7), (8, 9, 10, 11), (6, 12, 13, 8), (13, 12, 3, 2), (10, 14, 15, 11),
             (15, 14, 9, 7), (1, 16, 17, 4), (17, 16, 0, 5)), rings=8),
]


def nested(value, deep):
    """The value within so many tuples, lists and dicts."""
    for level in range(deep):
        value = [(value,), [value], {"a": value}][level % 3]
    return value


# What is neither a number, a drawing's part nor a line; no sample of it is right anywhere.
OTHERS = [
    None, True, False, "", "0", "\n", "a" * 4000, "ring\n", "cross", "~ !", [], {}, [0, 0], [0, 0, 1, 1], [(0, 0, 1, 1)],
    [[0, 0, 1, 1]], {0: 0, 1: 1}, {"crossings": (), "rings": 1}, (None,), (True, False), ("0", "0"), ([0], [0]), ((0, 0),),
    nested(0, 8), nested(None, 8), nested("ring", 7), RING, KNOT, (CURL,), (CURL, 0), [KNOT],
    Row({0: 1}), Row.none(), Course(KNOT), Course(LINKED, 1), (Course(RING),), Web(1, ()), Web(2, ((0, 1, 1),)),
    Shade((((0, 0),), ((0, 1),)), (-1,)), (Row({2: -1}), Web(1, ((0, 0, 1),))), {0: Row({1: 1})},
    InvalidDrawing("no drawing"), InvalidNumber(0), ParseError(None), Bench(KNOT), (Bench(RING), 0), Bench(CURL).trial(),
]
NUMBERS = [-1, -(10 ** 59), -(10 ** 60), 10, 10 ** 59, 10 ** 60 - 1, 10 ** 60, 10 ** 99, -(10 ** 99)]
WRONG = OTHERS + NUMBERS


def pattern(number, many):
    """Signs that differ by the number."""
    return tuple(1 if (number >> at) & 1 else -1 for at in range(many))


def signed(ends, number):
    """Ties between these places, with signs that differ by the number."""
    return tuple((a, b, sign) for (a, b), sign in zip(ends, pattern(number, len(ends))))


MIXED = Web(3, ((0, 1, 1), (1, 2, 1), (2, 0, -1), (1, 1, -1), (2, 1, 1)))
# Each of three places has a tie to each of three other ones, so no ball can hold this web.
CROWDED = Web(6, signed([(a, b) for a in (0, 1, 2) for b in (3, 4, 5)], 0b101100110))
PATH = [(at, at + 1) for at in range(9)]
WEBS = [
    MIXED, CROWDED, Web(1, ()), Web(2, ()), Web(10, ()), Web(1, ((0, 0, 1),)), Web(1, signed([(0, 0)] * 9, 0b1101)),
    Web(2, ((0, 1, -1),)), Web(2, signed([(0, 1), (1, 0)], 1)), Web(2, signed([(0, 1), (1, 0)] * 4 + [(0, 1)], 0b100111)),
    Web(10, signed(PATH, 0b10110)), Web(10, signed([(9, at) for at in range(9)], 0b11)), Web(3, ((0, 2, -1),)),
    Web(9, signed(PATH[:8] + [(8, 0)], 0b111000111)), Web(4, signed([(0, 1), (2, 3), (3, 2), (1, 1)], 0b1010)),
    Web(5, signed([(0, 1), (1, 2), (2, 0), (2, 3), (3, 4), (4, 2)], 0b010101)),
    Web(5, signed([(0, 1), (1, 2), (2, 0), (2, 3), (3, 4), (4, 3), (3, 3)], 0b0110101)),
    Web(5, signed([(4, 3), (3, 2), (2, 1), (1, 4), (4, 0), (0, 3), (0, 2), (0, 1), (4, 2)], 0b11010)),
    Web(6, signed([(0, 1), (2, 3), (4, 5), (5, 4)], 0b0011)), Web(8, signed([(6, 7), (7, 5), (5, 6), (1, 1)], 0b0001)),
    Web(4, signed([(0, 1), (1, 2), (2, 3), (3, 0), (0, 2), (1, 3)], 0b110100)), Web(10, ((9, 0, 1),)),
]
TINY_WEBS = [Web(many, tuple((a, b, sign) for (a, b), sign in zip(ends, signs)))
             for many in (1, 2, 3) for ties in (1, 2, 3)
             for ends in product([(a, b) for a in range(many) for b in range(many)], repeat=ties)
             if list(ends) == sorted(ends)
             for signs in [pattern(sum(3 * a + b for a, b in ends), ties)]]


def all_rounds(ties):
    """All tuples of rounds, told as they are to be, of so many ties, flat or not."""
    ends = [(tie, end) for tie in range(ties) for end in (0, 1)]
    for followers in permutations(ends):
        steps, rounds, left = dict(zip(ends, followers)), [], list(ends)
        while left:
            walk = [left[0]]
            while steps[walk[-1]] != walk[0]:
                walk.append(steps[walk[-1]])
            rounds.append(tuple(walk))
            left = [end for end in left if end not in walk]
        yield tuple(rounds)
