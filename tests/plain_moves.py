"""Moves worked out otherwise than in the package: by which ends are joined, out of all tuples that could be moves."""

from copy import copy
from functools import lru_cache

from tests.plain import all_ends, joined_ends, piece_classes, rim_classes, string_classes

# By ways: the ends of the new crossing that are joined with the end, with one another, and with the other end.
CURL_ENDS = ((0, (1, 2), 3), (0, (2, 3), 1), (1, (2, 3), 0), (1, (0, 3), 2))


class Ends:
    """Which ends of crossings are joined, with free rings beside them."""

    def __init__(self, crossings, rings):
        self.many, self.rings = len(crossings), rings
        self.joined = {}
        for one, other in joined_ends(crossings):
            self.join(one, other)
        self.rims = rim_classes(crossings)
        self.pieces = piece_classes(crossings)
        self.strings = string_classes(crossings)

    def copy(self):
        other = copy(self)
        other.joined = dict(self.joined)
        return other

    def join(self, one, other):
        self.joined[one], self.joined[other] = other, one

    def rim(self, corner):
        return next(rim for rim in self.rims if corner in rim)

    def ahead(self, end):
        return self.rim((end[0], (end[1] - 1) % 4))

    def bypass(self, gone):
        """All crossings that are gone are passed straight on by their strings."""
        left = {end: other for end, other in self.joined.items() if end[0] not in gone}
        self.rings += sum(all(end[0] in gone for end in string) for string in self.strings)
        for end, other in left.items():
            while other[0] in gone:
                other = self.joined[other[0], (other[1] + 2) % 4]
            left[end] = other
        order = sorted({end[0] for end in left} | set(range(self.many)) - set(gone))
        self.joined = {(order.index(i), p): (order.index(k), r) for (i, p), (k, r) in left.items()}
        self.many -= len(gone)

    def table(self):
        """The crossings, with strands numbered as they come first, and the number of free rings."""
        numbers = {}
        for end in [(i, p) for i in range(self.many) for p in range(4)]:
            if end not in numbers:
                numbers[end] = numbers[self.joined[end]] = len(numbers) // 2
        return (tuple(tuple(numbers[i, p] for p in range(4)) for i in range(self.many)), self.rings)


def opposite(end):
    return (end[0], (end[1] + 2) % 4)


def sides(ends, rim):
    """The pairs of ends of the strands along a rim: the ends of its corners, as they are joined."""
    return {frozenset([(i, (p + 1) % 4), ends.joined[i, (p + 1) % 4]]) for i, p in rim}


def curl(ends, end, way):
    if ends.many > 8:
        return None
    first, loop, last = CURL_ENDS[way]
    new, other = ends.many, ends.joined[end]
    for one, two in ((end, (new, first)), (other, (new, last)), ((new, loop[0]), (new, loop[1]))):
        ends.join(one, two)
    ends.many += 1
    return ends.table()


def curl_ring(ends, way):
    if ends.many > 8 or ends.rings == 0:
        return None
    first, loop, last = CURL_ENDS[way]
    new = ends.many
    ends.join((new, first), (new, last))
    ends.join((new, loop[0]), (new, loop[1]))
    ends.many, ends.rings = new + 1, ends.rings - 1
    return ends.table()


def uncurl(ends, corner):
    if len(ends.rim(corner)) != 1:
        return None
    ends.bypass([corner[0]])
    return ends.table() if ends.rings <= 9 else None


def lap(ends, one, other, over):
    if ends.many > 7 or other in (one, ends.joined[one]):
        return None
    together = any(one[0] in piece and other[0] in piece for piece in ends.pieces)
    if together and ends.ahead(one) != ends.ahead(other):
        return None
    s, t, n, m = ends.joined[one], ends.joined[other], ends.many, ends.many + 1
    if over:
        pairs = [(one, (n, 3)), ((n, 1), (m, 1)), ((m, 3), s), (other, (m, 2)), ((m, 0), (n, 2)), ((n, 0), t)]
    else:
        pairs = [(one, (n, 2)), ((n, 0), (m, 0)), ((m, 2), s), (other, (m, 1)), ((m, 3), (n, 1)), ((n, 3), t)]
    for pair in pairs:
        ends.join(*pair)
    ends.many += 2
    return ends.table()


def unlap(ends, corner):
    rim = ends.rim(corner)
    crossings = sorted({i for i, _ in rim})
    if len(rim) != 2 or len(crossings) != 2 or corner != min(rim):
        return None
    strands = sides(ends, rim)
    outer = [opposite(end) for strand in strands for end in strand]
    if not any(len({p % 2 for _, p in strand}) == 1 for strand in strands):
        return None
    if len({frozenset([end, ends.joined[end]]) for end in outer}) != 4:
        return None
    ends.bypass(crossings)
    return ends.table()


def slide(ends, corner):
    rim = ends.rim(corner)
    if len(rim) != 3 or len({i for i, _ in rim}) != 3 or corner != min(rim):
        return None
    strands = sides(ends, rim)
    levels = [{p % 2 for _, p in strand} for strand in strands]
    if {0} not in levels or {1} not in levels:
        return None
    # Each of the two crossings of a strand changes its place with the other one along it, its string going straight on.
    goes = {}
    for strand in strands:
        for end in strand:
            (other,) = strand - {end}
            goes[opposite(end)] = other
    before = dict(ends.joined)
    for end, place in goes.items():
        far = before[end]
        ends.join(place, goes.get(far, far))
    for strand in strands:
        ends.join(*[opposite(end) for end in strand])
    return ends.table()


ACTIONS = {"curl": curl, "curl ring": curl_ring, "lap": lap, "slide": slide, "uncurl": uncurl, "unlap": unlap}


def candidates(crossings):
    """All tuples that could be moves, not in order."""
    ends = all_ends(crossings)
    for word in ("unlap", "slide", "uncurl"):
        yield from ((word, corner) for corner in ends)
    yield from (("curl ring", way) for way in range(4))
    yield from (("curl", end, way) for way in range(4) for end in ends)
    yield from (("lap", one, other, over) for over in (0, 1) for other in ends for one in ends)


def plain_moved(crossings, rings, move):
    """The crossings and rings behind a tuple, None if it is no move."""
    return ACTIONS[move[0]](ends_of(crossings, rings).copy(), *move[1:])


@lru_cache(maxsize=None)
def ends_of(crossings, rings):
    return Ends(crossings, rings)


@lru_cache(maxsize=None)
def plain_moves(crossings, rings):
    """By moves, the crossings and rings behind them."""
    told = {move: plain_moved(crossings, rings, move) for move in candidates(crossings)}
    return {move: behind for move, behind in told.items() if behind is not None}
