"""Pairings of the crossings of a drawing with its rims, but for the two rims beside a strand."""

from crosswebs.base.words import are_counts, check_index
from crosswebs.draw.drawings import check_one_piece
from crosswebs.errors import InvalidOperation, InvalidPairing, InvalidTree
from crosswebs.webs.shades import dark_of, dark_rims
from crosswebs.webs.webs import is_tree

# How much greater the numbers of both corners are behind a clock turn, modulo 4, and ahead of it.
_CLOCK = 3
_BACK = 1


def each_pairing(drawing, strand):
    """All pairings, ascending."""
    rims = _rims_left(drawing, strand)
    many = len(drawing)
    for pairing in _each_longer(many, rims, ()):
        yield pairing


def is_pairing(drawing, strand, value):
    """Whether the value is a pairing."""
    rims = _rims_left(drawing, strand)
    if not (are_counts(value) and len(value) == len(drawing) and all([number < 4 for number in value])):
        return False
    return _is_paired(rims, value)


def tree_of(drawing, strand, pairing):
    """The joining tree of the dark web that comes of a pairing."""
    _check_pairing(drawing, strand, pairing)
    return _tree_in(_dark_corners(drawing), pairing)


def pairing_of(drawing, strand, tree):
    """The pairing of which a joining tree of the dark web comes."""
    pairings = list(each_pairing(drawing, strand))
    if not is_tree(dark_of(drawing).web, tree):
        raise InvalidTree("no joining tree of the dark web")
    dark = _dark_corners(drawing)
    return [pairing for pairing in pairings if _tree_in(dark, pairing) == tree][0]


def clock_turns(drawing, strand, pairing):
    """The clock turns of a pairing, ascending."""
    _check_pairing(drawing, strand, pairing)
    return _turns(_rims_left(drawing, strand), pairing, _CLOCK)


def turned(drawing, strand, pairing, turn):
    """The pairing behind a clock turn."""
    turns = clock_turns(drawing, strand, pairing)
    if not (are_counts(turn) and turn in turns):
        raise InvalidOperation("no clock turn of the pairing")
    return _stepped(pairing, turn, _CLOCK)


def lowest(drawing, strand):
    """The pairing to which no clock turn leads."""
    return _end_of_turns(drawing, strand, _BACK)


def highest(drawing, strand):
    """The pairing of which there is no clock turn."""
    return _end_of_turns(drawing, strand, _CLOCK)


def way_up(drawing, strand, pairing):
    """Any clock turns that lead from the lowest pairing to this one, one after the other."""
    _check_pairing(drawing, strand, pairing)
    rims = _rims_left(drawing, strand)
    way = []
    here = pairing
    turns = _turns(rims, here, _BACK)
    while turns:
        way.append(turns[0])
        here = _stepped(here, turns[0], _BACK)
        turns = _turns(rims, here, _BACK)
    return tuple(way[::-1])


def is_way_up(drawing, strand, pairing, value):
    """Whether the value is a tuple of clock turns that lead from the lowest pairing to this one."""
    _check_pairing(drawing, strand, pairing)
    if not (isinstance(value, tuple) and all([are_counts(turn) for turn in value])):
        return False
    rims = _rims_left(drawing, strand)
    here = lowest(drawing, strand)
    for turn in value:
        if turn not in _turns(rims, here, _CLOCK):
            return False
        here = _stepped(here, turn, _CLOCK)
    return here == pairing


def _rims_left(drawing, strand):
    """By corners, the index of their rim, for all rims but the two beside a strand."""
    check_one_piece(drawing)
    check_index(strand, len(drawing.strands))
    at, number = drawing.strands[strand][0]
    beside = [drawing.rim_at((at, number)), drawing.rim_at((at, (number + 3) % 4))]
    return {corner: index for index, rim in enumerate(drawing.rims) if rim not in beside for corner in rim}


def _check_pairing(drawing, strand, value):
    """Refuse what is no drawing in one piece, no strand of it, and no pairing."""
    if not is_pairing(drawing, strand, value):
        raise InvalidPairing("no pairing of the crossings and the rims")


def _each_longer(many, rims, chosen):
    """All pairings that begin with the corners that are chosen, ascending."""
    at = len(chosen)
    if at == many:
        yield chosen
        return
    taken = [rims[corner] for corner in enumerate(chosen)]
    for number in range(4):
        if (at, number) in rims and rims[at, number] not in taken:
            longer = chosen + (number,)
            yield from _each_longer(many, rims, longer)


def _is_paired(rims, numbers):
    """Whether the corners with these numbers are of rims that are left, each of another one."""
    corners = list(enumerate(numbers))
    if not all([corner in rims for corner in corners]):
        return False
    return len({rims[corner] for corner in corners}) == len(corners)


def _dark_corners(drawing):
    """The corners of the dark rims."""
    return [corner for rim in dark_rims(drawing) for corner in rim]


def _tree_in(dark, pairing):
    """The crossings whose corners in a pairing are dark."""
    return tuple([at for at, number in enumerate(pairing) if (at, number) in dark])


def _stepped(pairing, turn, step):
    """The numbers behind both corners of a turn are exchanged for others."""
    return tuple([(number + step) % 4 if at in turn else number for at, number in enumerate(pairing)])


def _turns(rims, pairing, step):
    """The pairs of crossings, ascending, both of whose corners can be exchanged so that it is a pairing again."""
    pairs = [(one, other) for other in range(len(pairing)) for one in range(other)]
    return tuple([pair for pair in sorted(pairs) if _is_paired(rims, _stepped(pairing, pair, step))])


def _end_of_turns(drawing, strand, step):
    """The pairing of which no turn of a kind is left."""
    rims = _rims_left(drawing, strand)
    return [pairing for pairing in each_pairing(drawing, strand) if not _turns(rims, pairing, step)][0]
