"""A bench: a drawing that is changed step by step, under pledges, with changes taken back and done again."""

from crosswebs.base.rows import is_text
from crosswebs.base.words import is_count
from crosswebs.bracket.kept import bare_row
from crosswebs.change.changes import switched
from crosswebs.draw.drawings import check_drawing
from crosswebs.draw.joins import apart, summed
from crosswebs.draw.moves import each_move, moved
from crosswebs.errors import InvalidNumber, InvalidOperation, NothingToUndo, Refused, TooMany
from crosswebs.group.groups import count_colourings, determinant

MAX_PLEDGES = 10


def is_pledge(value):
    """Whether the value is a pledge, whatever the drawing."""
    if not (isinstance(value, tuple) and len(value) > 1 and isinstance(value[0], str)):
        return False
    word = value[0]
    if word == "row":
        return len(value) == 2 and is_text(value[1])
    if word == "colours":
        return len(value) == 3 and is_count(value[1]) and value[1] > 0 and is_count(value[2])
    return word in ("strings", "most", "determinant") and len(value) == 2 and is_count(value[1])


class Trial:
    """A block with a bench, which is behind it as it was when the block was entered."""

    def __init__(self, bench):
        self._bench = bench

    def __enter__(self):
        bench = self._bench
        self._drawing = bench._drawing
        self._lines = bench._lines
        self._pledges = bench._pledges
        self._past = bench._past
        self._future = bench._future
        return bench

    def __exit__(self, kind, value, trace):
        bench = self._bench
        bench._drawing = self._drawing
        bench._lines = self._lines
        bench._pledges = self._pledges
        bench._past = self._past
        bench._future = self._future


class Bench:
    """A drawing and pledges about it, with the changes that led there."""

    def __init__(self, drawing):
        check_drawing(drawing)
        self._drawing = drawing
        self._lines = drawing.lines
        self._pledges = ()
        # The drawings and pledges that were there before, and those of changes that were taken back, in their order.
        self._past = ()
        self._future = ()

    @property
    def drawing(self):
        """The drawing as it is now."""
        return self._drawing

    @property
    def row(self):
        """The bare row of the drawing."""
        return bare_row(self._drawing)

    @property
    def pledges(self):
        """The pledges, in the order of demands."""
        return self._pledges

    @property
    def changes(self):
        """The number of changes that can be taken back."""
        return len(self._past)

    def move(self, *moves):
        """Do moves, one after the other."""
        return self._change(moved(self._drawing, *moves), self._pledges)

    def switch(self, *crossings):
        """Make the upper string the lower one at these crossings."""
        return self._change(switched(self._drawing, *crossings), self._pledges)

    def put_apart(self, other):
        """Put another drawing beside."""
        return self._change(apart(self._drawing, other), self._pledges)

    def sum_with(self, strand, other, other_strand, *, crossed=False):
        """Make the sum with another drawing."""
        return self._change(summed(self._drawing, strand, other, other_strand, crossed=crossed), self._pledges)

    def demand(self, pledge):
        """Add a pledge."""
        if not is_pledge(pledge) or pledge in self._pledges:
            raise InvalidOperation("no pledge, or one that is there already")
        if len(self._pledges) == MAX_PLEDGES:
            raise TooMany(MAX_PLEDGES)
        return self._change(self._drawing, self._pledges + (pledge,))

    def waive(self, pledge):
        """Take a pledge away."""
        if not (is_pledge(pledge) and pledge in self._pledges):
            raise InvalidOperation("the pledge is not there")
        return self._change(self._drawing, tuple([other for other in self._pledges if other != pledge]))

    def undo(self, *, many=1):
        """Take so many changes back."""
        _check_many(many, len(self._past))
        return self._go_to(len(self._past) - many)

    def redo(self, *, many=1):
        """Do so many changes again."""
        _check_many(many, len(self._future))
        return self._go_to(len(self._past) + many)

    def trial(self):
        """A block behind which the bench is as it was when the block was entered."""
        return Trial(self)

    def during(self, call):
        """What a call returns for the bench, which is behind it as it was before."""
        with self.trial() as same:
            result = call(same)
        return result

    def twin(self):
        """An independent copy."""
        other = Bench(self._drawing)
        other._pledges = self._pledges
        other._past = self._past
        other._future = self._future
        return other

    def moves(self):
        """All moves of the drawing."""
        return tuple(each_move(self._drawing))

    def holds(self, pledge):
        """Whether a pledge holds of the drawing."""
        if not is_pledge(pledge):
            raise InvalidOperation("no pledge")
        return _holds_of(self._drawing, pledge)

    def _change(self, drawing, pledges):
        """Come to a drawing and pledges that were not there before; refuse them if a pledge would not hold."""
        for pledge in pledges:
            if not _holds_of(drawing, pledge):
                raise Refused(pledge)
        past = self._past + ((self._drawing, self._pledges),)
        return self._turn_to(past, (drawing, pledges), ())

    def _go_to(self, at):
        """Come to what was there behind so many changes."""
        states = self._past + ((self._drawing, self._pledges),) + self._future
        return self._turn_to(states[:at], states[at], states[at + 1:])

    def _turn_to(self, past, state, future):
        """Come to a drawing and pledges: the news."""
        drawing, pledges = state
        news = _news(self._drawing, drawing)
        self._drawing = drawing
        self._lines = drawing.lines
        self._pledges = pledges
        self._past = past
        self._future = future
        return news

    def __contains__(self, value):
        is_line = isinstance(value, str) and value in self._lines
        return is_line or (is_pledge(value) and value in self._pledges)

    def __len__(self):
        return len(self._drawing)

    def __iter__(self):
        return iter(self._lines)

    def __eq__(self, other):
        return isinstance(other, Bench) and self._drawing == other._drawing and self._pledges == other._pledges

    def __str__(self):
        drawing = self._drawing
        return f"bench of {len(drawing)} crossings, {drawing.many_strings} strings, {len(self._pledges)} pledges"


def _holds_of(drawing, pledge):
    """Whether a pledge holds of a drawing."""
    word = pledge[0]
    if word == "row":
        return str(bare_row(drawing)) == pledge[1]
    if word == "strings":
        return drawing.many_strings == pledge[1]
    if word == "most":
        return len(drawing) <= pledge[1]
    if word == "determinant":
        return determinant(drawing) == pledge[1]
    return count_colourings(drawing, pledge[1]) == pledge[2]


def _news(before, behind):
    """How many crossings, pieces and strings there are more than before."""
    pieces = len(behind.pieces) - len(before.pieces)
    return (len(behind) - len(before), pieces, behind.many_strings - before.many_strings)


def _check_many(value, most):
    """Refuse what is no number of changes, and more changes than there are."""
    if not is_count(value):
        raise InvalidNumber(value)
    if value > most:
        raise NothingToUndo(value)
