"""Drawings and wrong values that several tests use."""

from crosswebs.draw.drawings import Drawing
from crosswebs.errors import InvalidDrawing, InvalidNumber, ParseError

RING, CURL = Drawing(rings=1), Drawing(((0, 0, 1, 1),))
LINKED = Drawing(((0, 1, 2, 3), (1, 0, 3, 2)))
KNOT = Drawing(((0, 1, 2, 3), (4, 0, 3, 5), (1, 4, 5, 2)))
EIGHT = Drawing(((0, 1, 2, 3), (4, 5, 1, 0), (6, 4, 3, 7), (5, 6, 7, 2)))


def twisted(many):
    """The crossings of two strings, or one, that are twisted round one another."""
    ends = 2 * many
    return tuple((2 * i, 2 * i + 1, (2 * i + 3) % ends, (2 * i + 2) % ends) for i in range(many))


def curls(many):
    """The crossings of so many curls beside one another."""
    return tuple((2 * i, 2 * i, 2 * i + 1, 2 * i + 1) for i in range(many))


def shuffled(crossings):
    """The same crossings, in another order, with other numbers of strands."""
    ends = 2 * len(crossings)
    return tuple(tuple(ends - 1 - strand for strand in crossing) for crossing in reversed(crossings))


def curled(crossings, at, number):
    """The crossings with a curl more, in the strand from an end on."""
    strand, ends = crossings[at][number], 2 * len(crossings)
    rows = [list(crossing) for crossing in crossings]
    rows[at][number] = ends
    rows.append([ends, ends + 1, ends + 1, strand])
    return tuple(tuple(row) for row in rows)


TWO_PIECES = Drawing(((0, 0, 1, 1), (2, 3, 4, 5), (3, 2, 5, 4)), rings=1)
WOVEN = Drawing(((3, 0, 1, 4), (5, 5, 2, 2), (0, 3, 4, 1)))
NINE = Drawing(twisted(9))
SAMPLES = [
    RING, CURL, LINKED, KNOT, EIGHT, TWO_PIECES, WOVEN, NINE,
    Drawing(rings=9), Drawing(curls(9), rings=9), Drawing(twisted(8)), Drawing(shuffled(twisted(7))),
    Drawing(shuffled(EIGHT.crossings)), Drawing(((1, 1, 0, 0),), rings=2), Drawing(((0, 1, 1, 0),)),
    Drawing(curled(KNOT.crossings, 1, 2)), Drawing(curled(curled(LINKED.crossings, 0, 1), 2, 2)),
    Drawing(((0, 0, 1, 2), (2, 1, 3, 3))), Drawing(KNOT.crossings + ((6, 6, 7, 7),)),
]


def nested(value, deep):
    """The value within so many tuples, lists and dicts."""
    for level in range(deep):
        value = [(value,), [value], {"a": value}][level % 3]
    return value


# What is neither a number, a drawing's part nor a line; no sample of it is right anywhere.
OTHERS = [
    None, True, False, "", "0", "\n", "a" * 4000, "ring\n", "cross", "~ !", [], {}, [0, 0], [0, 0, 1, 1], [(0, 0, 1, 1)],
    [[0, 0, 1, 1]], {0: 0, 1: 1}, {"crossings": (), "rings": 1}, (None,), (True, False), ("0", "0"), ([0], [0]), ((0, 0),),
    nested(0, 8), nested(None, 8), nested("ring", 7), RING, KNOT, (CURL,), (CURL, 0), [KNOT],
    InvalidDrawing("no drawing"), InvalidNumber(0), ParseError(None),
]
NUMBERS = [-1, -(10 ** 59), -(10 ** 60), 10, 10 ** 59, 10 ** 60 - 1, 10 ** 60, 10 ** 99, -(10 ** 99)]
WRONG = OTHERS + NUMBERS
