"""Webs: places and the ties between them, with signs."""

from crosswebs.base.parts import classes_of, count_classes, each_choice, labels_of
from crosswebs.base.words import are_counts, are_signs, check_index, is_count, is_line_number, is_sign
from crosswebs.errors import InvalidOperation, InvalidTree, InvalidWeb, ParseError

MAX_PLACES = 10
MAX_TIES = 9


class Web:
    """Places from 0 on, and ties with signs between them; it never changes."""

    def __init__(self, many, ties):
        if not (is_count(many) and 1 <= many <= MAX_PLACES and _are_ties(ties, many)):
            raise InvalidWeb("the number of places or the ties are not of their kind")
        self._many = many
        self._ties = ties

    @classmethod
    def from_lines(cls, *lines):
        """The web with so many places as the line like `places 3` tells, and a tie for each line like `tie 0 1 +`."""
        if len(lines) == 0:
            raise ParseError(0)
        for index, line in enumerate(lines):
            if not _is_line(line, index):
                raise ParseError(index)
        told = [line.split(" ") for line in lines]
        ties = tuple([(int(one), int(other), 1 if sign == "+" else -1) for _, one, other, sign in told[1:]])
        return cls(int(told[0][1]), ties)

    @property
    def many(self):
        """The number of places."""
        return self._many

    @property
    def ties(self):
        """The triples of the two places and the sign of each tie."""
        return self._ties

    @property
    def lines(self):
        """The line of the places, and one for each tie."""
        ties = [f"tie {one} {other} {'+' if sign == 1 else '-'}" for one, other, sign in self._ties]
        return tuple([f"places {self._many}"] + ties)

    @property
    def signs(self):
        """The signs of the ties."""
        return tuple([sign for _, _, sign in self._ties])

    @property
    def lots(self):
        """The ascending tuple of the ascending tuples of places that hang together."""
        return classes_of(self._many, _ends_of(self._ties))

    @property
    def hangs(self):
        """Whether there is just one lot."""
        return count_classes(self._many, _ends_of(self._ties)) == 1

    @property
    def bridges(self):
        """The ties without which there are more lots, ascending."""
        rests = [self._ties[:tie] + self._ties[tie + 1:] for tie in range(len(self._ties))]
        many = count_classes(self._many, _ends_of(self._ties))
        return tuple([tie for tie, rest in enumerate(rests) if count_classes(self._many, _ends_of(rest)) > many])

    @property
    def loops(self):
        """The ties with one place at both ends, ascending."""
        return tuple([tie for tie, (one, other, _) in enumerate(self._ties) if one == other])

    @property
    def blocks(self):
        """The ascending tuple of the ascending tuples of ties that are in one block."""
        # The rings that all ties have with one joining tree of each lot tell the blocks; a tree's own ties add nothing.
        forest = _forest_of(self)
        closed = sets_closed(self, forest)
        pairs = [(tie, part) for tie, ring in enumerate(closed) if tie not in forest for part in ring]
        return classes_of(len(self._ties), pairs)

    def struck(self, tie):
        """The web without a tie."""
        check_index(tie, len(self._ties))
        return Web(self._many, self._ties[:tie] + self._ties[tie + 1:])

    def drawn_together(self, tie):
        """The web without a tie, both of whose places are one."""
        check_index(tie, len(self._ties))
        low, high = sorted(self._ties[tie][:2])
        if low == high:
            raise InvalidOperation("a loop cannot be drawn together")
        places = [low if place == high else place for place in range(self._many)]
        told = [place - 1 if place > high else place for place in places]
        rest = self._ties[:tie] + self._ties[tie + 1:]
        return Web(self._many - 1, tuple([(told[one], told[other], sign) for one, other, sign in rest]))

    def with_signs(self, signs):
        """The web with other signs."""
        if not are_signs(signs, len(self._ties)):
            raise InvalidOperation("not one sign for each tie")
        return Web(self._many, tuple([(one, other, sign) for (one, other, _), sign in zip(self._ties, signs)]))

    def __len__(self):
        return len(self._ties)

    def __iter__(self):
        return iter(self._ties)

    def __contains__(self, value):
        # Without this, Python would compare with the ties, and take True for 1.
        return _is_tie(value, self._many) and value in self._ties

    def __eq__(self, other):
        return isinstance(other, Web) and self._many == other._many and self._ties == other._ties

    def __str__(self):
        return f"web of {self._many} places, {len(self._ties)} ties"


def each_tree(web):
    """All joining trees, ascending."""
    check_web(web)
    for choice in each_choice(len(web)):
        if _is_joining(web, choice):
            yield choice


def is_tree(web, value):
    """Whether the value is a joining tree."""
    check_web(web)
    if not (are_counts(value) and all([tie < len(web) for tie in value])):
        return False
    return list(value) == sorted(set(value)) and _is_joining(web, value)


def count_trees(web):
    """The number of joining trees."""
    return len(list(each_tree(web)))


def signed_count(web):
    """The sum, over all joining trees, of the products of the signs of their ties."""
    check_web(web)
    signs = web.signs
    trees = list(each_tree(web))
    odd = [tree for tree in trees if [signs[tie] for tie in tree].count(-1) % 2 == 1]
    return len(trees) - 2 * len(odd)


def cut_closed(web, tree, tie):
    """The ties between the two sets of places into which a joining tree falls without one of its ties."""
    _check_tree(web, tree)
    check_index(tie, len(web))
    if tie not in tree:
        raise InvalidOperation("the tie is none of the tree")
    return sets_closed(web, tree)[tie]


def ring_closed(web, tree, tie):
    """The ring of a tie and of ties of a joining tree that has it not."""
    _check_tree(web, tree)
    check_index(tie, len(web))
    if tie in tree:
        raise InvalidOperation("the tie is one of the tree")
    return sets_closed(web, tree)[tie]


def sets_closed(web, forest):
    """By ties, the cut of each of some ties without a ring, and the ring of each other tie: ascending tuples."""
    cuts = {part: _cut_of(web, forest, part) for part in forest}
    rings = [sorted([tie] + [part for part in forest if tie in cuts[part]]) for tie in range(len(web))]
    return tuple([cuts[tie] if tie in cuts else tuple(ring) for tie, ring in enumerate(rings)])


def check_web(value):
    """Refuse what is no web."""
    if not isinstance(value, Web):
        raise InvalidWeb("no web")


def _check_tree(web, tree):
    """Refuse what is no web, and what is no joining tree of it."""
    if not is_tree(web, tree):
        raise InvalidTree("no joining tree of the web")


def _is_tie(value, many):
    """Whether the value is a tie of so many places."""
    if not (isinstance(value, tuple) and len(value) == 3 and is_sign(value[2])):
        return False
    return are_counts(value[:2]) and max(value[:2]) < many


def _are_ties(value, many):
    """Whether the value is a tuple of few enough ties of so many places."""
    return isinstance(value, tuple) and len(value) <= MAX_TIES and all([_is_tie(tie, many) for tie in value])


def _is_line(value, index):
    """Whether the value is a line that can stand at this index."""
    if not isinstance(value, str):
        return False
    words = value.split(" ")
    if index == 0:
        return len(words) == 2 and words[0] == "places" and is_line_number(words[1])
    if len(words) != 4 or words[0] != "tie" or words[3] not in ("+", "-"):
        return False
    return is_line_number(words[1]) and is_line_number(words[2])


def _ends_of(ties):
    """The pairs of places at the ends of ties."""
    return [(one, other) for one, other, _ in ties]


def _is_joining(web, choice):
    """Whether all places hang together by an ascending choice of ties, without a ring."""
    if len(choice) != web.many - 1:
        return False
    ties = web.ties
    return count_classes(web.many, _ends_of([ties[tie] for tie in choice])) == 1


def _forest_of(web):
    """Ties without a ring by which all lots hang together, the least ones that there are."""
    forest = []
    for tie in range(len(web)):
        longer = forest + [tie]
        if count_classes(web.many, _ends_of([web.ties[part] for part in longer])) == web.many - len(longer):
            forest = longer
    return forest


def _cut_of(web, forest, tie):
    """The ties, ascending, between the two sets of places into which some ties without a ring fall without one."""
    rest = [web.ties[part] for part in forest if part != tie]
    labels = labels_of(web.many, _ends_of(rest))
    return tuple([part for part, (one, other, _) in enumerate(web.ties) if labels[one] != labels[other]])
