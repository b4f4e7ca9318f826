"""Drawings: crossings told by the strands at their ends, with free rings beside them."""

from crosswebs.base.parts import classes_of, labels_of, walk_from, walks_of
from crosswebs.base.words import are_counts, is_count, is_line_number
from crosswebs.errors import InvalidDrawing, InvalidEnd, InvalidOperation, ParseError, TooMany

MAX_CROSSINGS = 9
MAX_RINGS = 9
# How a crossing that is taken away can have its ends joined: by the two smoothings, or straight through it.
SMOOTHINGS = (((0, 1), (2, 3)), ((1, 2), (3, 0)))
STRAIGHT = ((0, 2), (1, 3))


class Layout:
    """What crossings lead to; each answer is worked out when it is asked for first, and kept."""

    # Of many drawings, as of those behind moves, little is asked, and to work out all takes longer than the move.
    def __init__(self, crossings):
        self._crossings = crossings
        self._strands = None
        self._partners = None
        self._pieces = None
        self._rims = None
        self._strings = None

    @property
    def strands(self):
        """By strands, the ascending pairs of their ends."""
        if self._strands is None:
            self._strands = _strands_of(self._crossings)
        return self._strands

    @property
    def partners(self):
        """By ends, the ends that are joined with them."""
        if self._partners is None:
            self._partners = _partners_of(self.strands)
        return self._partners

    @property
    def pieces(self):
        """The ascending tuple of the ascending tuples of the crossings of a piece."""
        if self._pieces is None:
            self._pieces = _pieces_of(len(self._crossings), self.strands)
        return self._pieces

    @property
    def rims(self):
        """The ascending tuple of the rims, each a tuple of corners."""
        if self._rims is None:
            self._rims = _rims_of(self.partners)
        return self._rims

    @property
    def strings(self):
        """The strings by their first ends, ascending, each told by the ends at which one comes in."""
        if self._strings is None:
            self._strings = _strings_of(self.partners)
        return self._strings


class Drawing:
    """Strings drawn on a ball; it never changes."""

    def __init__(self, crossings=(), *, rings=0):
        if not (_are_crossings(crossings) and is_count(rings) and rings <= MAX_RINGS):
            raise InvalidDrawing("the crossings or the number of free rings are not of their kind")
        if len(crossings) + rings == 0:
            raise InvalidDrawing("there is no string")
        self._crossings = crossings
        self._rings = rings
        self._layout = Layout(crossings)
        if not _are_flat(self._layout.pieces, self._layout.rims):
            raise InvalidDrawing("the crossings cannot be drawn on a ball")

    @classmethod
    def from_lines(cls, *lines):
        """The drawing with a crossing for each line like `cross 0 1 2 3`, and a free ring for each `ring`."""
        for index, line in enumerate(lines):
            if not _is_line(line):
                raise ParseError(index)
        crosses = [line.split(" ")[1:] for line in lines if line != "ring"]
        crossings = tuple([tuple([int(number) for number in numbers]) for numbers in crosses])
        return cls(crossings, rings=len(lines) - len(crossings))

    @property
    def crossings(self):
        """The quadruples of the strands at the ends of the crossings."""
        return self._crossings

    @property
    def rings(self):
        """The number of free rings."""
        return self._rings

    @property
    def lines(self):
        """The lines of the crossings, and then one for each free ring."""
        crosses = [f"cross {a} {b} {c} {d}" for a, b, c, d in self._crossings]
        return tuple(crosses + ["ring"] * self._rings)

    @property
    def strands(self):
        """By strands, the ascending pairs of their ends."""
        return self._layout.strands

    @property
    def pieces(self):
        """The ascending tuple of the ascending tuples of the crossings of a piece."""
        return self._layout.pieces

    @property
    def rims(self):
        """The ascending tuple of the rims, each a tuple of corners."""
        return self._layout.rims

    @property
    def strings(self):
        """The strings that pass crossings, each the tuple of the ends at which one comes in."""
        return self._layout.strings

    @property
    def many_strings(self):
        """The number of all strings, the free rings among them."""
        return len(self._layout.strings) + self._rings

    @property
    def is_one_piece(self):
        """Whether the drawing is one piece, without free rings."""
        return len(self._layout.pieces) == 1 and self._rings == 0

    @property
    def numbered(self):
        """The same drawing with strands numbered as they come first."""
        return Drawing(numbered_crossings(self._crossings), rings=self._rings)

    @property
    def mirror(self):
        """The drawing in which at each crossing the upper string is the lower one."""
        ats = list(range(len(self._crossings)))
        return Drawing(switched_crossings(self._crossings, ats), rings=self._rings)

    @property
    def behind(self):
        """The drawing as it is seen from inside of the ball."""
        return Drawing(tuple([(b, a, d, c) for a, b, c, d in self._crossings]), rings=self._rings)

    def partner(self, end):
        """The end that is joined with an end."""
        _check_end(self, end)
        return self._layout.partners[end]

    def opposite(self, end):
        """The end of the same crossing and the same string."""
        _check_end(self, end)
        return opposite_end(end)

    def rim_at(self, corner):
        """The rim with a corner."""
        _check_end(self, corner)
        rims = self._layout.rims
        return rims[[corner in rim for rim in rims].index(True)]

    def string_at(self, end):
        """The index of the string that passes an end."""
        _check_end(self, end)
        other = opposite_end(end)
        return [end in string or other in string for string in self._layout.strings].index(True)

    def __len__(self):
        return len(self._crossings)

    def __iter__(self):
        return iter(self._crossings)

    def __contains__(self, value):
        # Without this, Python would compare with the quadruples, and take True for 1.
        return are_counts(value) and value in self._crossings

    def __eq__(self, other):
        return isinstance(other, Drawing) and self._crossings == other._crossings and self._rings == other._rings

    def __str__(self):
        return f"drawing of {len(self._crossings)} crossings, {self.many_strings} strings, {self._rings} rings"


def flat_drawing(crossings, rings):
    """The drawing of flat crossings and so many free rings, both known to be of their kind."""
    # To ask what is known anew, as for callers, would take longer than a move.
    drawing = Drawing(rings=1)
    drawing._crossings = crossings
    drawing._rings = rings
    drawing._layout = Layout(crossings)
    return drawing


def is_end(drawing, value):
    """Whether the value is an end of the drawing; corners are told by the same pairs."""
    return are_counts(value) and len(value) == 2 and value[0] < len(drawing) and value[1] < 4


def check_drawing(value):
    """Refuse what is no drawing."""
    if not isinstance(value, Drawing):
        raise InvalidDrawing("no drawing")


def check_one_piece(value):
    """Refuse what is no drawing, and a drawing that is not in one piece."""
    check_drawing(value)
    if not value.is_one_piece:
        raise InvalidOperation("the drawing is not in one piece")


def check_rings(many):
    """Refuse more free rings than a drawing can have."""
    if many > MAX_RINGS:
        raise TooMany(MAX_RINGS)


def _check_end(drawing, value):
    """Refuse what is no end and no corner of the drawing."""
    if not is_end(drawing, value):
        raise InvalidEnd("no end or corner of the drawing")


def opposite_end(end):
    """The end opposite to an end."""
    at, number = end
    return (at, (number + 2) % 4)


def numbered_crossings(crossings):
    """The crossings with strands numbered as they come first, whatever told them apart."""
    numbers = {}
    for crossing in crossings:
        for strand in crossing:
            if strand not in numbers:
                numbers[strand] = len(numbers)
    return tuple([tuple([numbers[strand] for strand in crossing]) for crossing in crossings])


def switched_crossings(crossings, ats):
    """The crossings, at some of which the upper string becomes the lower one."""
    return tuple([crossing[1:] + crossing[:1] if at in ats else crossing for at, crossing in enumerate(crossings)])


def rejoined(crossings, ways):
    """The numbered crossings behind some are taken away, and how many circles without ends come of it.

    `ways` has for each crossing that goes the pairs of its ends that are joined.
    """
    pairs = [(crossings[at][one], crossings[at][other]) for at in ways for one, other in ways[at]]
    labels = labels_of(2 * len(crossings), pairs)
    left = [[labels[strand] for strand in crossing] for at, crossing in enumerate(crossings) if at not in ways]
    rings = len(set(labels)) - len({strand for crossing in left for strand in crossing})
    return (numbered_crossings(left), rings)


def _is_line(value):
    """Whether the value is the line of a crossing or of a free ring."""
    if not isinstance(value, str):
        return False
    words = value.split(" ")
    is_cross = words[0] == "cross" and len(words) == 5 and all([is_line_number(word) for word in words[1:]])
    return is_cross or value == "ring"


def _are_crossings(value):
    """Whether the value is a tuple of few enough quadruples in which each strand stands just twice."""
    if not (isinstance(value, tuple) and len(value) <= MAX_CROSSINGS):
        return False
    if not all([are_counts(crossing) and len(crossing) == 4 for crossing in value]):
        return False
    told = sorted([strand for crossing in value for strand in crossing])
    return told == [place // 2 for place in range(len(told))]


def _strands_of(crossings):
    """By strands, the ascending pairs of their ends."""
    strands = [[] for _ in range(2 * len(crossings))]
    for at, crossing in enumerate(crossings):
        for number, strand in enumerate(crossing):
            strands[strand].append((at, number))
    return tuple([tuple(ends) for ends in strands])


def _partners_of(strands):
    """By ends, the ends that are joined with them."""
    partners = {}
    for one, other in strands:
        partners[one] = other
        partners[other] = one
    return partners


def _pieces_of(many, strands):
    """The ascending tuple of the pieces into which so many crossings fall."""
    return classes_of(many, [(one, other) for (one, _), (other, _) in strands])


def _rims_of(partners):
    """The ascending tuple of the rims, each from its least corner on."""
    return walks_of({(at, number): partners[at, (number + 1) % 4] for at, number in partners})


def _strings_of(partners):
    """The strings by their first ends, ascending, each told by the ends at which one comes in."""
    steps = {end: partners[opposite_end(end)] for end in partners}
    strings = []
    passed = {}
    for first in sorted(steps):
        if first not in passed:
            string = walk_from(steps, first)
            strings.append(string)
            for end in string:
                passed[end] = passed[opposite_end(end)] = True
    return tuple(strings)


def _are_flat(pieces, rims):
    """Whether each piece has just as many rims as it has on a ball."""
    return all([len([rim for rim in rims if rim[0][0] in piece]) == len(piece) + 2 for piece in pieces])
