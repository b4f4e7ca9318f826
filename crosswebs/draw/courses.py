"""Courses: drawings whose strings have directions."""

from crosswebs.base.parts import each_choice
from crosswebs.base.words import check_index
from crosswebs.draw.drawings import (SMOOTHINGS, Drawing, check_drawing, check_rings, is_end, opposite_end, rejoined,
                                     switched_crossings)
from crosswebs.errors import InvalidCourse, InvalidOperation


class Course:
    """A drawing with a direction for each string that passes crossings; it never changes."""

    def __init__(self, drawing, *backward):
        check_drawing(drawing)
        for string in backward:
            check_index(string, len(drawing.strings))
        if len(set(backward)) < len(backward):
            raise InvalidCourse("a string is backward twice")
        self._drawing = drawing
        self._backward = tuple(sorted(backward))
        self._ends_in = tuple([_ends_along(string, at in backward) for at, string in enumerate(drawing.strings)])
        self._signs = _signs_of(len(drawing), self._ends_in)

    @property
    def drawing(self):
        """The drawing, without directions."""
        return self._drawing

    @property
    def backward(self):
        """The ascending tuple of the indices of the backward strings."""
        return self._backward

    @property
    def ends_in(self):
        """By strings, the tuples of the ends at which they come in."""
        return self._ends_in

    @property
    def signs(self):
        """The signs of all crossings."""
        return self._signs

    @property
    def winding(self):
        """The sum of all signs."""
        return sum(self._signs)

    @property
    def windings(self):
        """By strings, the sums of the signs of the crossings that they pass twice."""
        return tuple([_sum_of_signs(self, string, string) for string in range(len(self._ends_in))])

    @property
    def turned_round(self):
        """The course in which all strings are turned."""
        backward = [string for string in range(len(self._ends_in)) if string not in self._backward]
        return Course(self._drawing, *backward)

    def linking(self, one, other):
        """The linking number of two strings."""
        check_index(one, len(self._ends_in))
        check_index(other, len(self._ends_in))
        if one == other:
            raise InvalidOperation("a string has no linking number with itself")
        return _sum_of_signs(self, one, other) // 2

    def switched(self, crossing):
        """The course in which the upper string is the lower one at a crossing."""
        check_index(crossing, len(self._drawing))
        crossings = switched_crossings(self._drawing.crossings, [crossing])
        told = [end for string in self._ends_in for end in string]
        ends = [(at, (number + 3) % 4 if at == crossing else number) for at, number in told]
        return _course_of(Drawing(crossings, rings=self._drawing.rings), ends)

    def smoothed(self, crossing):
        """The course without a crossing, in which who comes in on one string goes on along the other one."""
        check_index(crossing, len(self._drawing))
        way = 0 if self._signs[crossing] == 1 else 1
        crossings, circles = rejoined(self._drawing.crossings, {crossing: SMOOTHINGS[way]})
        rings = self._drawing.rings + circles
        check_rings(rings)
        left = [end for string in self._ends_in for end in string if end[0] != crossing]
        ends = [(at - 1 if at > crossing else at, number) for at, number in left]
        return _course_of(Drawing(crossings, rings=rings), ends)

    def __contains__(self, value):
        return is_end(self._drawing, value) and any([value in ends for ends in self._ends_in])

    def __len__(self):
        return len(self._signs)

    def __iter__(self):
        return iter(self._signs)

    def __eq__(self, other):
        return isinstance(other, Course) and self._drawing == other._drawing and self._backward == other._backward

    def __str__(self):
        return f"course of {len(self._signs)} crossings, {self._drawing.many_strings} strings, winding {self.winding}"


def each_course(drawing):
    """All courses of a drawing, ascending by their backward strings."""
    check_drawing(drawing)
    for backward in each_choice(len(drawing.strings)):
        yield Course(drawing, *backward)


def check_course(value):
    """Refuse what is no course."""
    if not isinstance(value, Course):
        raise InvalidCourse("no course")


def _ends_along(string, is_backward):
    """The ends at which a string comes in, in its direction."""
    return tuple([opposite_end(end) for end in string[::-1]]) if is_backward else string


def _signs_of(many, ends_in):
    """The signs of so many crossings."""
    into = [end for string in ends_in for end in string]
    return tuple([1 if ((at, 0) in into) == ((at, 3) in into) else -1 for at in range(many)])


def _sum_of_signs(course, one, other):
    """The sum of the signs of the crossings whose lower and upper strings are these two, either way round."""
    drawing = course.drawing
    passed = [sorted([drawing.string_at((at, 0)), drawing.string_at((at, 1))]) for at in range(len(drawing))]
    return sum([sign for sign, strings in zip(course.signs, passed) if strings == sorted([one, other])])


def _course_of(drawing, ends):
    """The course of a drawing whose strings come in at these ends."""
    backward = [index for index, string in enumerate(drawing.strings) if string[0] not in ends]
    return Course(drawing, *backward)
