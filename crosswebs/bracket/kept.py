"""Rows that no move changes: the bracket, freed of what the windings add to it."""

from crosswebs.base.rows import Row
from crosswebs.bracket.smoothings import bracket
from crosswebs.bracket.trees import bracket_by_trees
from crosswebs.draw.courses import Course, check_course, each_course
from crosswebs.draw.drawings import check_drawing, check_one_piece
from crosswebs.webs.shades import dark_of


def kept_row(course):
    """The kept row of a course."""
    check_course(course)
    return bracket(course.drawing) * _freeing(course.winding)


def bare_row(drawing):
    """The bare row of a drawing."""
    check_drawing(drawing)
    return bracket(drawing) * _freeing(sum(Course(drawing).windings))


def kept_by_trees(course):
    """The kept row of a course in one piece, by the joining trees of the dark web."""
    check_course(course)
    check_one_piece(course.drawing)
    return bracket_by_trees(dark_of(course.drawing).web) * _freeing(course.winding)


def relation_rows(course, crossing):
    """The kept rows of the courses with the sign 1, with the sign -1, and with smoothed strings at a crossing."""
    check_course(course)
    smooth = course.smoothed(crossing)
    other = course.switched(crossing)
    plus, minus = (course, other) if course.signs[crossing] == 1 else (other, course)
    return (kept_row(plus), kept_row(minus), kept_row(smooth))


def kept_rows(drawing):
    """The kept rows of all courses, each row once, ascending by their texts."""
    check_drawing(drawing)
    told = bracket(drawing)
    # All courses of a drawing have one bracket, so a winding that came before brings no new row.
    windings = sorted({course.winding for course in each_course(drawing)})
    rows = {}
    for winding in windings:
        row = told * _freeing(winding)
        rows[str(row)] = row
    return tuple([rows[text] for text in sorted(rows)])


def are_told_apart(one, other):
    """Whether the kept rows of both drawings are unlike."""
    rows = kept_rows(one)
    return rows != kept_rows(other)


def _freeing(winding):
    """The power of `-x^3` with the number of the winding, negated."""
    return Row.power(-3 * winding, many=-1 if winding % 2 == 1 else 1)
