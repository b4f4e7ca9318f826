"""The row of a web: by all choices of ties, and by striking and drawing together one tie after the other."""

from crosswebs.base.parts import count_classes, each_choice
from crosswebs.base.words import check_index
from crosswebs.bracket.smoothings import bracket_of, smoothed_crossings, sum_of_states
from crosswebs.draw.drawings import check_drawing
from crosswebs.webs.webs import check_web


def bracket_by_sets(web):
    """The row of a web, by all choices of its ties."""
    check_web(web)
    return sum_of_states([_state_of(web, choice) for choice in each_choice(len(web))])


def bracket_by_striking(web):
    """The row of a web, tie for tie."""
    check_web(web)
    if len(web) == 0:
        return sum_of_states([(0, web.many)])
    one, other, sign = web.ties[0]
    struck = bracket_by_striking(web.struck(0))
    if one == other:
        return -struck.shifted(3 * sign)
    return bracket_by_striking(web.drawn_together(0)).shifted(sign) + struck.shifted(-sign)


def relation(drawing, crossing):
    """The brackets of both drawings in which a crossing is smoothed, first by smoothing 0, then by smoothing 1."""
    check_drawing(drawing)
    check_index(crossing, len(drawing))
    former, rings = smoothed_crossings(drawing, crossing, 0)
    latter, more = smoothed_crossings(drawing, crossing, 1)
    return (bracket_of(former, rings), bracket_of(latter, more))


def _state_of(web, choice):
    """The weight and the number of circles of a choice."""
    chosen = [web.ties[tie] for tie in choice]
    lots = count_classes(web.many, [(one, other) for one, other, _ in chosen])
    weight = 2 * sum([sign for _, _, sign in chosen]) - sum(web.signs)
    return (weight, 2 * lots + len(choice) - web.many)
