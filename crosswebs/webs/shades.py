"""Shades: webs that are drawn on a ball, and the drawings to which they lead."""

from crosswebs.base.parts import classes_of, count_classes, walks_of
from crosswebs.base.words import are_counts, are_signs
from crosswebs.draw.drawings import Drawing, check_one_piece, numbered_crossings
from crosswebs.errors import InvalidEnd, InvalidOperation, InvalidShade
from crosswebs.webs.webs import MAX_TIES, Web


class Shade:
    """A web with the rounds of the tie ends at its places; it never changes."""

    def __init__(self, rounds, signs):
        if not (_are_rounds(rounds) and are_signs(signs, len(_tie_ends(rounds)) // 2)):
            raise InvalidShade("the rounds or the signs are not of their kind")
        self._rounds = rounds
        self._signs = signs
        self._behind = {end: after for ends in rounds for end, after in zip(ends, ends[1:] + ends[:1])}
        self._ahead = {self._behind[end]: end for end in self._behind}
        self._places = {end: place for place, ends in enumerate(rounds) for end in ends}
        self._faces = walks_of({(tie, end): self._behind[tie, 1 - end] for tie, end in self._behind})
        pairs = [(self._places[tie, 0], self._places[tie, 1]) for tie in range(len(signs))]
        if count_classes(len(rounds), pairs) != 1 or len(rounds) - len(signs) + len(self._faces) != 2:
            raise InvalidShade("the rounds do not hang together on a ball")

    @property
    def rounds(self):
        """By places, the tie ends at them, counterclockwise."""
        return self._rounds

    @property
    def signs(self):
        """The signs of the ties."""
        return self._signs

    @property
    def web(self):
        """The web, with the places of both ends of each tie."""
        places = self._places
        return Web(len(self._rounds), tuple([(places[tie, 0], places[tie, 1], sign)
                                             for tie, sign in enumerate(self._signs)]))

    @property
    def faces(self):
        """The ascending tuple of the faces, each one by the tie ends from which one goes."""
        return self._faces

    @property
    def dual(self):
        """The shade of the rims of the other colour of the drawing to which this shade leads."""
        drawing = drawing_of(self)
        return light_of(drawing) if self._signs[0] == -1 else dark_of(drawing)

    def end_behind(self, tie_end):
        """The tie end behind a tie end in its round."""
        _check_tie_end(self, tie_end)
        return self._behind[tie_end]

    def end_ahead(self, tie_end):
        """The tie end ahead of a tie end in its round."""
        _check_tie_end(self, tie_end)
        return self._ahead[tie_end]

    def place_of(self, tie_end):
        """The number of the place that has a tie end."""
        _check_tie_end(self, tie_end)
        return self._places[tie_end]

    def with_signs(self, signs):
        """The shade with other signs."""
        if not are_signs(signs, len(self._signs)):
            raise InvalidOperation("not one sign for each tie")
        return Shade(self._rounds, signs)

    def __len__(self):
        return len(self._rounds)

    def __iter__(self):
        return iter(self._rounds)

    def __contains__(self, value):
        # Without this, Python would compare with the rounds, and take True for 1.
        return _are_tie_ends(value) and value in self._rounds

    def __eq__(self, other):
        return isinstance(other, Shade) and self._rounds == other._rounds and self._signs == other._signs

    def __str__(self):
        return f"shade of {len(self._rounds)} places, {len(self._signs)} ties"


def dark_of(drawing):
    """The dark shade."""
    return _shade_of(drawing, _coloured(drawing)[0])


def light_of(drawing):
    """The light shade."""
    return _shade_of(drawing, _coloured(drawing)[1])


def dark_rims(drawing):
    """The dark rims, in the order of the places of the dark shade."""
    return _coloured(drawing)[0]


def light_rims(drawing):
    """The light rims, in the order of the places of the light shade."""
    return _coloured(drawing)[1]


def drawing_of(shade):
    """The drawing to which a shade leads."""
    if not isinstance(shade, Shade):
        raise InvalidShade("no shade")
    crossings = []
    for tie, sign in enumerate(shade.signs):
        one, other = (tie, 0), (tie, 1)
        # A strand is told by the tie end behind which it lies.
        strands = (shade.end_ahead(other), one, shade.end_ahead(one), other)
        crossings.append(strands if sign == 1 else strands[1:] + strands[:1])
    return Drawing(numbered_crossings(crossings))


def _check_tie_end(shade, value):
    """Refuse what is no tie end of the shade."""
    if not (_is_tie_end(value) and value[0] < len(shade.signs)):
        raise InvalidEnd("no tie end of the shade")


def _is_tie_end(value):
    """Whether the value is a tie end of some shade."""
    return are_counts(value) and len(value) == 2 and value[1] < 2


def _are_tie_ends(value):
    """Whether the value is a tuple of tie ends."""
    return isinstance(value, tuple) and all([_is_tie_end(end) for end in value])


def _tie_ends(rounds):
    """The tie ends of all rounds, ascending."""
    return sorted([end for ends in rounds for end in ends])


def _are_rounds(value):
    """Whether the value is a tuple of rounds, told as they are to be, in which each tie end stands just once."""
    if not (isinstance(value, tuple) and all([_are_tie_ends(ends) and len(ends) > 0 for ends in value])):
        return False
    told = _tie_ends(value)
    ties = len(told) // 2
    if not 1 <= ties <= MAX_TIES or told != [(tie, end) for tie in range(ties) for end in (0, 1)]:
        return False
    return all([ends[0] == min(ends) for ends in value]) and list(value) == sorted(value)


def _coloured(drawing):
    """The pair of the tuples of the dark and of the light rims."""
    check_one_piece(drawing)
    # Opposite corners of a crossing have one colour, and so have all corners of a rim.
    pairs = [((at, number), (at, number + 2)) for at in range(len(drawing)) for number in (0, 1)]
    for rim in drawing.rims:
        pairs.extend([(rim[0], corner) for corner in rim])
    indices = [(_index_of(one), _index_of(other)) for one, other in pairs]
    dark, light = classes_of(4 * len(drawing), indices)
    return (_rims_in(drawing, dark), _rims_in(drawing, light))


def _index_of(corner):
    """The index of a corner among all corners."""
    at, number = corner
    return 4 * at + number


def _rims_in(drawing, colour):
    """The rims whose corners have the indices of a colour."""
    return tuple([rim for rim in drawing.rims if _index_of(rim[0]) in colour])


def _shade_of(drawing, rims):
    """The shade whose places are the rims of one colour."""
    corners = [corner for rim in rims for corner in rim]
    signs = [-1 if (at, 0) in corners else 1 for at in range(len(drawing))]
    return Shade(tuple([_round_of(rim) for rim in rims]), tuple(signs))


def _round_of(rim):
    """The tie ends at the corners of a rim, from the least one on, the other way round than the rim."""
    ends = tuple([(at, number // 2) for at, number in rim])
    return ends[:1] + ends[:0:-1]
