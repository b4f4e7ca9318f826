"""Drawings put together, and drawings that are the same but for their numbers."""

from crosswebs.base.words import are_counts, check_index
from crosswebs.draw.drawings import MAX_CROSSINGS, Drawing, check_drawing, check_rings, numbered_crossings
from crosswebs.errors import InvalidOperation, TooMany


def apart(one, other):
    """Both drawings beside one another."""
    check_drawing(one)
    check_drawing(other)
    _check_sizes(one, other)
    return Drawing(_beside(one, other), rings=one.rings + other.rings)


def summed(one, strand, other, other_strand, *, crossed=False):
    """Both drawings with a strand of each cut, and the four ends joined otherwise."""
    check_drawing(one)
    check_index(strand, len(one.strands))
    check_drawing(other)
    check_index(other_strand, len(other.strands))
    if not isinstance(crossed, bool):
        raise InvalidOperation("crossed is neither True nor False")
    _check_sizes(one, other)
    lesser, greater = other.strands[other_strand]
    met, left = (greater, lesser) if crossed else (lesser, greater)
    rows = [list(crossing) for crossing in _beside(one, other)]
    last_at, last_number = one.strands[strand][1]
    rows[last_at][last_number] = other_strand + len(one.strands)
    rows[len(one) + met[0]][met[1]] = strand
    rows[len(one) + left[0]][left[1]] = other_strand + len(one.strands)
    return Drawing(tuple([tuple(row) for row in rows]), rings=one.rings + other.rings)


def piece_at(drawing, index):
    """The drawing of the piece with an index alone, without free rings."""
    check_drawing(drawing)
    check_index(index, len(drawing.pieces))
    return Drawing(numbered_crossings([drawing.crossings[at] for at in drawing.pieces[index]]))


def matching(one, other):
    """Any matching of both drawings, None if there is none."""
    check_drawing(one)
    check_drawing(other)
    if len(one) != len(other) or one.rings != other.rings:
        return None
    # Matching pieces can stand for one another, so whichever is taken first spoils nothing.
    found = {}
    for piece in one.pieces:
        taken = [pair[0] for pair in found.values()]
        pairs = _piece_matching(one, piece[0], other, [at for at in range(len(other)) if at not in taken])
        if pairs is None:
            return None
        found.update(pairs)
    return tuple([found[at] for at in range(len(one))])


def is_matching(one, other, value):
    """Whether the value is a matching of both drawings."""
    check_drawing(one)
    check_drawing(other)
    if len(one) != len(other) or one.rings != other.rings or not _are_pairs(value, len(one)):
        return False
    return all([_goes_to(value, end) == other.partner(_goes_to(value, partner)) for end, partner in one.strands])


def _check_sizes(one, other):
    """Refuse two drawings that have too many crossings or free rings together."""
    if len(one) + len(other) > MAX_CROSSINGS:
        raise TooMany(MAX_CROSSINGS)
    check_rings(one.rings + other.rings)


def _beside(one, other):
    """The crossings of both, with other numbers for the strands of the second one."""
    many = len(one.strands)
    return one.crossings + tuple([tuple([strand + many for strand in crossing]) for crossing in other.crossings])


def _piece_matching(one, first, other, free):
    """By crossings, the pairs of a piece with a crossing in it, so that it goes to free crossings; None if none do."""
    for at in free:
        for turn in (0, 2):
            pairs = _spread_matching(one, first, other, (at, turn))
            if pairs is not None:
                return pairs
    return None


def _spread_matching(one, first, other, pair):
    """By crossings, the pairs of a piece that follow from the pair of one crossing, None if they are at odds."""
    pairs = {first: pair}
    waiting = [first]
    while waiting:
        at = waiting.pop()
        for number in range(4):
            near, near_number = one.partner((at, number))
            far, far_number = other.partner(_goes_to(pairs, (at, number)))
            told = (far, (far_number - near_number) % 4)
            if near not in pairs:
                pairs[near] = told
                waiting.append(near)
            if pairs[near] != told or told[1] % 2 == 1:
                return None
    # Two crossings cannot go to one.
    return pairs if len({to for to, _ in pairs.values()}) == len(pairs) else None


def _goes_to(pairs, end):
    """The end to which an end goes."""
    at, number = end
    to, turn = pairs[at]
    return (to, (number + turn) % 4)


def _are_pairs(value, many):
    """Whether the value has a pair for each of so many crossings, in which each one stands just once."""
    if not (isinstance(value, tuple) and len(value) == many):
        return False
    if not all([are_counts(pair) and len(pair) == 2 and pair[1] in (0, 2) for pair in value]):
        return False
    return sorted([to for to, _ in value]) == list(range(many))
