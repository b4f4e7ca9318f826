"""Moves: ways from a drawing to a drawing of the same strings, drawn otherwise."""

from crosswebs.base.words import is_count
from crosswebs.draw.drawings import (MAX_CROSSINGS, MAX_RINGS, STRAIGHT, check_drawing, flat_drawing, is_end,
                                     numbered_crossings, opposite_end, rejoined)
from crosswebs.draw.joins import matching
from crosswebs.errors import InvalidMove

# The new crossings, by the way of a curl and by who is over in a lap; a letter stands for each new strand.
_CURLS = (("u", "v", "v", "w"), ("u", "w", "v", "v"), ("w", "u", "v", "v"), ("v", "u", "w", "v"))
_LAPS = ((("s1", "t1", "s0", "t2"), ("s1", "t0", "s2", "t1")), (("t2", "s1", "t1", "s0"), ("t1", "s1", "t0", "s2")))
# The least corner of the new rim, by the same numbers: of the new crossing, and of the former one of both.
_CURL_CORNERS = (1, 2, 2, 3)
_LAP_CORNERS = (0, 1)
# The words of moves that are told by the least corner of a rim, and how many corners the rim has.
_CORNERS_OF_RIMS = (("slide", 3), ("uncurl", 1), ("unlap", 2))


def each_move(drawing):
    """All moves of the drawing, ascending as tuples."""
    check_drawing(drawing)
    if len(drawing) < MAX_CROSSINGS:
        yield from _each_curl(drawing)
    if len(drawing) + 2 <= MAX_CROSSINGS:
        yield from _each_lap(drawing)
    for word, many in _CORNERS_OF_RIMS:
        judge = _JUDGES[word]
        for rim in drawing.rims:
            if len(rim) == many and judge(drawing, (word, rim[0])):
                yield (word, rim[0])


def is_move(drawing, value):
    """Whether the value is a move of the drawing."""
    check_drawing(drawing)
    if not (isinstance(value, tuple) and len(value) > 0 and isinstance(value[0], str) and value[0] in _JUDGES):
        return False
    judge = _JUDGES[value[0]]
    return judge(drawing, value)


def moved(drawing, *moves):
    """The drawing behind moves, done one after the other."""
    check_drawing(drawing)
    behind = drawing
    for move in moves:
        _check_move(behind, move)
        act = _ACTIONS[move[0]]
        told = move[1:]
        behind = act(behind, *told)
    return behind


def back_move(drawing, move):
    """Any move of the drawing behind a move that leads to a drawing that matches the first one."""
    behind = moved(drawing, move)
    propose = _BACK[move[0]]
    told = move[1:]
    backs = [back for back in propose(drawing, *told) if is_move(behind, back)]
    return [back for back in backs if matching(moved(behind, back), drawing) is not None][0]


def _each_curl(drawing):
    """All curls of a drawing with room for a crossing more, and all curls of a free ring, ascending."""
    for at in range(len(drawing)):
        for number in range(4):
            for way in range(len(_CURLS)):
                yield ("curl", (at, number), way)
    if drawing.rings > 0:
        for way in range(len(_CURLS)):
            yield ("curl ring", way)


def _each_lap(drawing):
    """All laps of a drawing with room for two crossings more, ascending."""
    met = _ends_met(drawing)
    for one in sorted(met):
        own = drawing.strands[_strand_at(drawing, one)]
        for other in met[one]:
            if other not in own:
                for over in range(len(_LAPS)):
                    yield ("lap", one, other, over)


def _ends_met(drawing):
    """By ends, the ascending ends that have the same rim ahead, or are of other pieces."""
    met = {}
    for piece in drawing.pieces:
        beyond = [(at, number) for at in range(len(drawing)) if at not in piece for number in range(4)]
        for rim in drawing.rims:
            if rim[0][0] in piece:
                leaving = [(at, (number + 1) % 4) for at, number in rim]
                reached = sorted(leaving + beyond)
                for end in leaving:
                    met[end] = reached
    return met


def _check_move(drawing, value):
    """Refuse what is no move of the drawing."""
    if not is_move(drawing, value):
        raise InvalidMove("no move of the drawing")


def _is_below(value, limit):
    """Whether the value is an integer from 0 on below a limit."""
    return is_count(value) and value < limit


def _strand_at(drawing, end):
    """The strand at an end."""
    at, number = end
    return drawing.crossings[at][number]


def _rim_ahead(drawing, end):
    """The rim that one leaves by an end."""
    at, number = end
    return drawing.rim_at((at, (number + 3) % 4))


def _sides(rim):
    """The pairs of ends of the strands along a rim, as one comes along them."""
    following = rim[1:] + rim[:1]
    return [((at, (number + 1) % 4), end) for (at, number), end in zip(rim, following)]


def _other_ends(corner):
    """The two ends of its crossing that are not beside a corner."""
    at, number = corner
    return ((at, (number + 2) % 4), (at, (number + 3) % 4))


def _is_curl(drawing, move):
    """Whether the tuple with this word is such a move."""
    if len(move) != 3 or len(drawing) == MAX_CROSSINGS:
        return False
    return is_end(drawing, move[1]) and _is_below(move[2], len(_CURLS))


def _is_curl_ring(drawing, move):
    """Whether the tuple with these words is such a move."""
    if len(move) != 2 or len(drawing) == MAX_CROSSINGS:
        return False
    return drawing.rings > 0 and _is_below(move[1], len(_CURLS))


def _is_uncurl(drawing, move):
    """Whether the tuple with this word is such a move."""
    if len(move) != 2 or not is_end(drawing, move[1]) or len(drawing.rim_at(move[1])) != 1:
        return False
    one, other = _other_ends(move[1])
    return drawing.rings < MAX_RINGS or _strand_at(drawing, one) != _strand_at(drawing, other)


def _is_lap(drawing, move):
    """Whether the tuple with this word is such a move."""
    if len(move) != 4 or len(drawing) + 2 > MAX_CROSSINGS or not _is_below(move[3], len(_LAPS)):
        return False
    one, other = move[1], move[2]
    if not (is_end(drawing, one) and is_end(drawing, other)):
        return False
    if _strand_at(drawing, one) == _strand_at(drawing, other):
        return False
    in_one_piece = any([one[0] in piece and other[0] in piece for piece in drawing.pieces])
    return not in_one_piece or _rim_ahead(drawing, one) == _rim_ahead(drawing, other)


def _is_rim_from(drawing, move, many):
    """Whether the tuple tells the least corner of a rim with so many corners, all of different crossings."""
    if len(move) != 2 or not is_end(drawing, move[1]):
        return False
    rim = drawing.rim_at(move[1])
    return rim[0] == move[1] and len(rim) == many and len({at for at, _ in rim}) == many


def _has_level(sides, level):
    """Whether one of the strands has both ends at lower strings (level 0), or at upper ones (level 1)."""
    return any([one[1] % 2 == level and other[1] % 2 == level for one, other in sides])


def _is_slide(drawing, move):
    """Whether the tuple with this word is such a move."""
    if not _is_rim_from(drawing, move, 3):
        return False
    sides = _sides(drawing.rim_at(move[1]))
    return _has_level(sides, 0) and _has_level(sides, 1)


def _is_unlap(drawing, move):
    """Whether the tuple with this word is such a move."""
    if not _is_rim_from(drawing, move, 2):
        return False
    sides = _sides(drawing.rim_at(move[1]))
    outer = [_strand_at(drawing, opposite_end(end)) for side in sides for end in side]
    return (_has_level(sides, 0) or _has_level(sides, 1)) and len(set(outer)) == 4


def _retold(drawing, strands, crossings):
    """The drawing with other strands at some ends, and with crossings more."""
    rows = [[strands.get((at, number), strand) for number, strand in enumerate(crossing)]
            for at, crossing in enumerate(drawing.crossings)]
    return numbered_crossings(rows + list(crossings))


def _without(drawing, ats):
    """The drawing without some crossings, whose strings go straight on."""
    crossings, rings = rejoined(drawing.crossings, {at: STRAIGHT for at in ats})
    return flat_drawing(crossings, drawing.rings + rings)


def _curl(drawing, end, way):
    """The drawing behind this move."""
    strands = {end: "u", drawing.partner(end): "w"}
    return flat_drawing(_retold(drawing, strands, [_CURLS[way]]), drawing.rings)


def _curl_ring(drawing, way):
    """The drawing behind this move."""
    crossing = [strand.replace("w", "u") for strand in _CURLS[way]]
    return flat_drawing(_retold(drawing, {}, [crossing]), drawing.rings - 1)


def _uncurl(drawing, corner):
    """The drawing behind this move."""
    return _without(drawing, [corner[0]])


def _lap(drawing, one, other, over):
    """The drawing behind this move."""
    strands = {one: "s0", drawing.partner(one): "s2", other: "t0", drawing.partner(other): "t2"}
    return flat_drawing(_retold(drawing, strands, _LAPS[over]), drawing.rings)


def _unlap(drawing, corner):
    """The drawing behind this move."""
    return _without(drawing, [at for at, _ in drawing.rim_at(corner)])


def _slide(drawing, corner):
    """The drawing behind this move."""
    strands = {}
    for one, other in _sides(drawing.rim_at(corner)):
        beyond_one, beyond_other = opposite_end(one), opposite_end(other)
        strands[other] = _strand_at(drawing, beyond_one)
        strands[one] = _strand_at(drawing, beyond_other)
        strands[beyond_one] = strands[beyond_other] = _strand_at(drawing, one)
    return flat_drawing(_retold(drawing, strands, []), drawing.rings)


def _end_behind(end, gone):
    """How an end is told behind some other crossings are gone."""
    at, number = end
    return (at - len([low for low in gone if low < at]), number)


def _back_of_curl(drawing, end, way):
    """What can be a move back."""
    return [("uncurl", (len(drawing), _CURL_CORNERS[way]))]


def _back_of_curl_ring(drawing, way):
    """What can be a move back."""
    return [("uncurl", (len(drawing), _CURL_CORNERS[way]))]


def _back_of_uncurl(drawing, corner):
    """What can be a move back."""
    one, other = _other_ends(corner)
    if drawing.partner(one) == other:
        return [("curl ring", way) for way in range(len(_CURLS))]
    ends = [_end_behind(drawing.partner(end), [corner[0]]) for end in (one, other)]
    return [("curl", end, way) for end in ends for way in range(len(_CURLS))]


def _back_of_lap(drawing, one, other, over):
    """What can be a move back."""
    return [("unlap", (len(drawing), _LAP_CORNERS[over]))]


def _back_of_unlap(drawing, corner):
    """What can be a move back."""
    rim = drawing.rim_at(corner)
    gone = [at for at, _ in rim]
    former, latter = [[_end_behind(drawing.partner(opposite_end(end)), gone) for end in side] for side in _sides(rim)]
    return [("lap", one, other, over) for one in former for other in latter for over in range(len(_LAPS))]


def _back_of_slide(drawing, corner):
    """What can be a move back."""
    return [("slide", min([opposite_end(part) for part in drawing.rim_at(corner)]))]


_JUDGES = {"curl": _is_curl, "curl ring": _is_curl_ring, "lap": _is_lap, "slide": _is_slide, "uncurl": _is_uncurl,
           "unlap": _is_unlap}
_ACTIONS = {"curl": _curl, "curl ring": _curl_ring, "lap": _lap, "slide": _slide, "uncurl": _uncurl, "unlap": _unlap}
_BACK = {"curl": _back_of_curl, "curl ring": _back_of_curl_ring, "lap": _back_of_lap, "slide": _back_of_slide,
         "uncurl": _back_of_uncurl, "unlap": _back_of_unlap}
