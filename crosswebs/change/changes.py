"""Switched crossings: courses that go down, and the Conway row by its relation alone."""

from crosswebs.base.rows import Row
from crosswebs.base.words import check_index
from crosswebs.draw.courses import Course, check_course
from crosswebs.draw.drawings import Drawing, check_drawing, is_end, switched_crossings
from crosswebs.errors import InvalidEnd, InvalidOperation


def switched(drawing, *crossings):
    """The drawing in which at each of these crossings the upper string is the lower one."""
    check_drawing(drawing)
    for crossing in crossings:
        check_index(crossing, len(drawing))
    if len(set(crossings)) < len(crossings):
        raise InvalidOperation("a crossing is switched twice")
    return Drawing(switched_crossings(drawing.crossings, crossings), rings=drawing.rings)


def is_first_ends(course, value):
    """Whether the value is a tuple of first ends of the course."""
    check_course(course)
    if not (isinstance(value, tuple) and all([is_end(course.drawing, end) for end in value])):
        return False
    strings = [string for string, ends in enumerate(course.ends_in) for end in value if end in ends]
    return len(value) == len(strings) and strings == list(range(len(course.ends_in)))


def going_down(course, *, firsts=None):
    """The crossings, ascending, that are passed as the lower string first."""
    check_course(course)
    return tuple(sorted(_lower_first(_passed_from(course, _checked_firsts(course, firsts)))))


def is_going_down(course, *, firsts=None):
    """Whether no crossing is passed as the lower string first."""
    return len(going_down(course, firsts=firsts)) == 0


def apart_by(course, *, firsts=None):
    """The crossings to switch so that the course goes down, or those so that it goes up, if these are fewer."""
    down = going_down(course, firsts=firsts)
    up = tuple([at for at in range(len(course)) if at not in down])
    return up if len(up) < len(down) else down


def switches_at_least(drawing):
    """The sum of the linking numbers of all pairs of strings, without their signs."""
    course = Course(drawing)
    pairs = [(one, other) for other in range(len(drawing.strings)) for one in range(other)]
    return sum([abs(course.linking(one, other)) for one, other in pairs])


def conway_by_relation(course):
    """The Conway row of a course, by its relation alone."""
    check_course(course)
    # Strings told by how they pass crossings can be smoothed without drawings, however many free rings come of it.
    strings = [tuple([(at, number % 2) for at, number in ends]) for ends in course.ends_in]
    return _by_relation(strings + [()] * course.drawing.rings, course.signs)


def _plain_firsts(course):
    """The first ends of all strings, as the course tells them."""
    return tuple([ends[0] for ends in course.ends_in])


def _checked_firsts(course, firsts):
    """The first ends that are told, or the plain ones; refuse what is none."""
    if firsts is None:
        return _plain_firsts(course)
    if not is_first_ends(course, firsts):
        raise InvalidEnd("no first ends of the course")
    return firsts


def _passed_from(course, firsts):
    """All ends at which one comes in along all strings, one after the other, from their first ends on."""
    passed = []
    for first in firsts:
        ends = [string for string in course.ends_in if first in string][0]
        at = ends.index(first)
        passed.extend(ends[at:] + ends[:at])
    return passed


def _lower_first(passed):
    """The crossings that are passed as the lower string first, in the order in which one comes to them."""
    first_numbers = {}
    for at, number in passed:
        if at not in first_numbers:
            first_numbers[at] = number
    return [at for at in first_numbers if first_numbers[at] % 2 == 0]


def _by_relation(strings, signs):
    """The Conway row of strings that are told by the crossings they pass, as lower strings (0) or upper ones (1)."""
    lower = _lower_first([part for string in strings for part in string])
    if not lower:
        return Row.power(0) if len(strings) == 1 else Row.none()
    at = lower[0]
    other_signs = tuple([-sign if mark == at else sign for mark, sign in enumerate(signs)])
    rest = _by_relation(_smoothed_strings(strings, at), signs).shifted(1) * signs[at]
    return _by_relation([_switched_string(string, at) for string in strings], other_signs) + rest


def _switched_string(string, at):
    """The string, which passes a crossing as the upper string where it was the lower one, and the other way round."""
    return tuple([(mark, 1 - level if mark == at else level) for mark, level in string])


def _smoothed_strings(strings, at):
    """The strings of which each that comes to a crossing goes on along the other one."""
    passing = [string for string in strings if _places(string, at)]
    left = [string for string in strings if not _places(string, at)]
    one = passing[0]
    place = _places(one, at)[0]
    if len(passing) == 1:
        again = _places(one, at)[1]
        return [one[:place] + one[again + 1:], one[place + 1:again]] + left
    other = passing[1]
    there = _places(other, at)[0]
    return [one[:place] + other[there + 1:] + other[:there] + one[place + 1:]] + left


def _places(string, at):
    """Where a string passes a crossing."""
    return [place for place, (mark, _) in enumerate(string) if mark == at]
