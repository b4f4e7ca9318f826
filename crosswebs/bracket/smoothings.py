"""Smoothings of a drawing, their circles, and the bracket, the sum over all of them."""

from crosswebs.base.parts import classes_of, count_classes, sums_of
from crosswebs.base.rows import Row, row_of
from crosswebs.base.words import are_counts, check_index, is_count
from crosswebs.draw.drawings import SMOOTHINGS, Drawing, check_drawing, check_rings, rejoined
from crosswebs.errors import InvalidNumber, InvalidSmoothing

# Stands for a strand without a free end.
_CLOSED = -1


def is_smoothing(drawing, value):
    """Whether the value is a smoothing of the drawing."""
    check_drawing(drawing)
    return are_counts(value) and len(value) == len(drawing) and all([way < 2 for way in value])


def each_smoothing(drawing):
    """All smoothings of the drawing, ascending."""
    check_drawing(drawing)
    for number in range(1 << len(drawing)):
        yield _smoothing_at(len(drawing), number)


def circles(drawing, smoothing):
    """The ascending tuple of the circles that have strands, each by its strands, ascending."""
    _check_smoothing(drawing, smoothing)
    return classes_of(len(drawing.strands), _joins_of(drawing.crossings, smoothing))


def count_circles(drawing, smoothing):
    """The number of all circles, free rings among them."""
    _check_smoothing(drawing, smoothing)
    return _count(drawing.crossings, drawing.rings, smoothing)


def pure_circles(drawing):
    """The numbers of all circles of the smoothing by 0 alone, and of the one by 1 alone."""
    check_drawing(drawing)
    return tuple([_count(drawing.crossings, drawing.rings, (way,) * len(drawing)) for way in (0, 1)])


def bracket(drawing):
    """The bracket of the drawing, by all its smoothings."""
    check_drawing(drawing)
    return bracket_of(drawing.crossings, drawing.rings)


def smoothed(drawing, crossing, way):
    """The drawing with a crossing smoothed."""
    check_drawing(drawing)
    check_index(crossing, len(drawing))
    if not (is_count(way) and way < 2):
        raise InvalidNumber(way)
    crossings, rings = smoothed_crossings(drawing, crossing, way)
    check_rings(rings)
    return Drawing(crossings, rings=rings)


def smoothed_crossings(drawing, crossing, way):
    """The crossings, and the number of free rings, of the drawing with a crossing smoothed, however many they are."""
    crossings, more = rejoined(drawing.crossings, {crossing: SMOOTHINGS[way]})
    return (crossings, drawing.rings + more)


def bracket_of(crossings, rings):
    """The bracket of crossings and so many free rings, however many they are."""
    # Smoothings of the first crossings that join the strands to the same chains go on alike, so they are counted
    # together. Chains are told by strands: for each one with a free end, the strand at the other end of its chain.
    strands = 2 * len(crossings)
    states = {tuple(range(strands)): {(0, rings): 1}}
    for crossing in crossings:
        states = _states_behind(states, crossing)
    return _sum_of_counts(states[(_CLOSED,) * strands])


def sum_of_states(states):
    """The sum of x to the power of the weight times d to the power of the circles less 1, over weights and circles."""
    counts = {}
    for state in states:
        counts[state] = counts.get(state, 0) + 1
    return _sum_of_counts(counts)


def _check_smoothing(drawing, value):
    """Refuse what is no drawing, and what is no smoothing of it."""
    if not is_smoothing(drawing, value):
        raise InvalidSmoothing("no smoothing of the drawing")


def _smoothing_at(many, number):
    """The smoothing of so many crossings with an index, if all of them are ascending."""
    return tuple([(number >> (many - 1 - at)) & 1 for at in range(many)])


def _joins_of(crossings, smoothing):
    """The pairs of strands whose ends are joined by a smoothing."""
    return [pair for crossing, way in zip(crossings, smoothing) for pair in _joins_at(crossing, way)]


def _joins_at(crossing, way):
    """The pairs of strands whose ends are joined at a crossing."""
    return [(crossing[one], crossing[other]) for one, other in SMOOTHINGS[way]]


def _count(crossings, rings, smoothing):
    """The number of all circles, so many free rings among them."""
    return rings + count_classes(2 * len(crossings), _joins_of(crossings, smoothing))


def _states_behind(states, crossing):
    """By chains, how often each weight and number of circles is there, behind a crossing more is smoothed."""
    behind = {}
    for chains, counts in states.items():
        for way in range(len(SMOOTHINGS)):
            left, circled = _chains_behind(chains, _joins_at(crossing, way))
            told = {(weight + 1 - 2 * way, number + circled): counts[weight, number] for weight, number in counts}
            behind[left] = sums_of(behind.get(left, {}), told)
    return behind


def _chains_behind(chains, pairs):
    """The chains behind pairs of free ends are joined, and how many circles are closed by it."""
    left = list(chains)
    circled = 0
    for one, other in pairs:
        first, last = left[one], left[other]
        left[one] = left[other] = _CLOSED
        if first == other:
            circled = circled + 1
        else:
            left[first], left[last] = last, first
    return (tuple(left), circled)


def _sum_of_counts(counts):
    """The sum over weights and circles, by how often each pair of them is there."""
    circle = Row({-2: -1, 2: -1})
    total = Row.none()
    # What has the most circles comes first, and is multiplied by d at each step to come.
    for number in range(max([told for _, told in counts]), 0, -1):
        terms = {weight: counts[weight, told] for weight, told in counts if told == number}
        total = total * circle + row_of(terms)
    return total
