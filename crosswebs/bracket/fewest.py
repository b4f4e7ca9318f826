"""Which drawings have a bracket as long as can be, and how few crossings moves can lead to."""

from crosswebs.base.parts import count_classes, each_choice
from crosswebs.base.words import are_counts, is_count
from crosswebs.bracket.smoothings import bracket, pure_circles
from crosswebs.draw.drawings import check_drawing, check_one_piece
from crosswebs.group.groups import determinant
from crosswebs.webs.shades import dark_of


def is_alternate(drawing):
    """Whether each strand joins a lower and an upper end."""
    check_drawing(drawing)
    return all([one % 2 != other % 2 for (_, one), (_, other) in drawing.strands])


def blocks_alike(drawing):
    """Whether no ring of ties of the dark web has ties of both signs."""
    check_one_piece(drawing)
    web = dark_of(drawing).web
    # Two ties are in one block exactly if some ring has both.
    return not any([_is_mixed(web, block) for block in web.blocks])


def turning_number(drawing):
    """Half of what both pure smoothings lack of the most circles that they can have."""
    check_one_piece(drawing)
    return (len(drawing) + 2 - sum(pure_circles(drawing))) // 2


def is_long(drawing):
    """Whether the span of the bracket is four times the crossings."""
    check_one_piece(drawing)
    return bracket(drawing).span == 4 * len(drawing)


def least_crossings(drawing):
    """The least number of crossings of a drawing."""
    check_drawing(drawing)
    least = (bracket(drawing).span + 3) // 4
    return least if determinant(drawing) > 0 else max(0, least - (drawing.many_strings - 1))


def fewest_paper(drawing):
    """Any paper that shows that the drawing is long, or why it is not."""
    check_one_piece(drawing)
    web = dark_of(drawing).web
    if web.bridges:
        return ("bridge", web.bridges[0])
    if web.loops:
        return ("loop", web.loops[0])
    rings = [choice for choice in each_choice(len(web)) if _is_ring(web, choice)]
    mixed = [ring for ring in rings if _is_mixed(web, ring)]
    if mixed:
        return ("mixed", mixed[0])
    return ("long", pure_circles(drawing), tuple([_ring_with(rings, tie) for tie in range(len(web))]))


def is_fewest_paper(drawing, value):
    """Whether the value is a paper that shows that the drawing is long, or why it is not."""
    check_one_piece(drawing)
    if not (isinstance(value, tuple) and len(value) > 1 and isinstance(value[0], str)):
        return False
    web = dark_of(drawing).web
    if value[0] == "long":
        return len(value) == 3 and _is_full(drawing, value[1]) and _are_rings(web, value[2])
    if len(value) != 2:
        return False
    if value[0] == "mixed":
        return _is_ring(web, value[1]) and _is_mixed(web, value[1])
    return is_count(value[1]) and value in _single_papers(web)


def _single_papers(web):
    """The papers that tell a bridge or a loop."""
    return [("bridge", tie) for tie in web.bridges] + [("loop", tie) for tie in web.loops]


def _is_mixed(web, ties):
    """Whether the ties have both signs."""
    return len({web.signs[tie] for tie in ties}) == 2


def _is_ring(web, value):
    """Whether the value is a ring of ties of the web."""
    if not (are_counts(value) and len(value) > 0):
        return False
    if list(value) != sorted(set(value)) or value[-1] >= len(web):
        return False
    pairs = [web.ties[tie][:2] for tie in value]
    ends = [place for pair in pairs for place in pair]
    if not all([ends.count(place) == 2 for place in ends]):
        return False
    # As many places as ties, so all of them hang together if this many classes are left.
    return count_classes(web.many, pairs) == web.many - len(value) + 1


def _ring_with(rings, tie):
    """The first one of the rings that has a tie."""
    return [ring for ring in rings if tie in ring][0]


def _is_full(drawing, value):
    """Whether the value is the pair of the numbers of the pure circles, and these are as many as can be."""
    return are_counts(value) and value == pure_circles(drawing) and sum(value) == len(drawing) + 2


def _are_rings(web, value):
    """Whether the value has for each tie a ring that has this tie and another one."""
    if not (isinstance(value, tuple) and len(value) == len(web) and all([_is_ring(web, ring) for ring in value])):
        return False
    return all([tie in ring and len(ring) > 1 for tie, ring in enumerate(value)])
