"""Switched crossings: stage 17, [0.19], and [0.1] to [0.7] as far as they reach it."""

import inspect
import unittest
from itertools import combinations, permutations, product

from crosswebs.base.rows import Row
from crosswebs.bracket.kept import kept_row
from crosswebs.change import changes
from crosswebs.change.changes import (apart_by, conway_by_relation, going_down, is_first_ends, is_going_down, switched,
                                      switches_at_least)
from crosswebs.draw.courses import Course
from crosswebs.draw.drawings import Drawing
from crosswebs.draw.joins import apart
from crosswebs.draw.moves import each_move, moved
from crosswebs.errors import InvalidCourse, InvalidDrawing, InvalidEnd, InvalidNumber, InvalidOperation
from crosswebs.pairs.alexander import conway_row
from tests.refusals import broken, check_arguments, check_judged, check_plain, check_refused, wrong_but, wrong_indices
from tests.samples import (CURL, EIGHT, KNOT, LINKED, NINE, REACHED, RING, SAMPLES, SMALL, TWO_PIECES, WOVEN, WRONG, curls,
                           twisted)
from tests.test_courses import CHAIN, some_courses

NO_DRAWINGS, NO_COURSES = wrong_but(Drawing), wrong_but(Course)
UNLINKED = Drawing(((0, 1, 2, 3), (0, 3, 2, 1)))
ALL = SAMPLES + REACHED + [CHAIN, UNLINKED] + SMALL[::40]
COURSES = [course for drawing in ALL for course in some_courses(drawing)[:4]]


def some_firsts(course):
    """First ends of a course, the strings in several orders."""
    plain = tuple(ends[0] for ends in course.ends_in)
    told = [plain, plain[::-1], tuple(ends[-1] for ends in course.ends_in)]
    told += [tuple(ends[len(ends) // 2] for ends in course.ends_in)[1:] + tuple(
        ends[len(ends) // 2] for ends in course.ends_in)[:1]]
    return told


def plain_down(course, firsts):
    """The crossings that are passed as the lower string first, by going along from end to end."""
    drawing, seen, lower = course.drawing, set(), []
    for first in firsts:
        here = first
        while True:
            at, number = here
            if at not in seen and number in (0, 2):
                lower.append(at)
            seen.add(at)
            here = drawing.partner(drawing.opposite(here))
            if here == first:
                break
    return tuple(sorted(lower))


def switched_at(course, crossings):
    for at in crossings:
        course = course.switched(at)
    return course


def turned_firsts(firsts, crossings):
    """The first ends, told as ends of the drawing behind these crossings are switched."""
    return tuple((at, (number + 3) % 4 if at in crossings else number) for at, number in firsts)


class Examples(unittest.TestCase):
    def test_going_down(self):
        knot = Course(KNOT)
        told = [going_down(knot), apart_by(knot), going_down(knot, firsts=((2, 0),)), is_first_ends(knot, ((0, 1),)),
                is_first_ends(knot, ((1, 3),))]
        self.assertEqual(told, [(0, 1), (2,), (0, 2), False, True])

    def test_switched(self):
        down = Course(KNOT).switched(0).switched(1)
        told = [is_going_down(down, firsts=((0, 3),)), down.signs, switched(KNOT, 1, 0) == down.drawing,
                switched(KNOT).crossings == KNOT.crossings]
        self.assertEqual(told, [True, (-1, -1, 1), True, True])

    def test_rows(self):
        down = Course(KNOT).switched(0).switched(1)
        told = [conway_by_relation(course).terms for course in (Course(KNOT), Course(LINKED), Course(EIGHT), down,
                                                                Course(Drawing(rings=2)))]
        self.assertEqual(told, [{0: 1, 2: 1}, {1: -1}, {0: 1, 2: -1}, {0: 1}, {}])
        told = [switches_at_least(LINKED), switches_at_least(KNOT), apart_by(Course(LINKED)),
                going_down(Course(LINKED), firsts=((0, 1), (0, 0)))]
        self.assertEqual(told, [1, 0, (0,), (1,)])


class Switched(unittest.TestCase):
    def test_crossings(self):
        for drawing in ALL:
            many = len(drawing)
            for chosen in [(), tuple(range(many)), tuple(range(many))[::-2], tuple(range(many))[1::3]]:
                told = switched(drawing, *chosen)
                self.assertEqual((type(told), told.rings), (Drawing, drawing.rings))
                for at, (a, b, c, d) in enumerate(drawing.crossings):
                    self.assertEqual(told.crossings[at], (b, c, d, a) if at in chosen else (a, b, c, d))
                if many:
                    self.assertEqual(told, switched_at(Course(drawing), chosen).drawing)
            self.assertEqual(switched(drawing, *range(many)), drawing.mirror)
        self.assertEqual(switched(switched(LINKED, 0), 0).crossings[0], (2, 3, 0, 1))
        self.assertEqual(switched(RING), RING)

    def test_refused(self):
        for drawing, many in ((EIGHT, 4), (TWO_PIECES, 3), (Drawing(curls(9), rings=9), 9)):
            check_arguments(self, switched, ([drawing], NO_DRAWINGS, InvalidDrawing), ([1], wrong_indices(many), InvalidNumber),
                            ([0], wrong_indices(many), InvalidNumber), ([2], wrong_indices(many), InvalidNumber))
            check_refused(self, InvalidOperation, switched, drawing, 1, 1)
            check_refused(self, InvalidOperation, switched, drawing, 2, 0, 1, 2)
            check_refused(self, InvalidNumber, switched, drawing, 1, 1, True, kept=True)
            check_refused(self, InvalidNumber, switched, drawing, 1, 1, many, None, kept=many)
        for value in wrong_indices(0):
            check_refused(self, InvalidNumber, switched, RING, value, kept=value)
            check_refused(self, InvalidDrawing, switched, Course(KNOT), value)

    def test_defined_here(self):
        for function, told in ((switched, "(drawing, *crossings)"), (is_first_ends, "(course, value)"),
                               (going_down, "(course, *, firsts=None)"), (is_going_down, "(course, *, firsts=None)"),
                               (apart_by, "(course, *, firsts=None)"), (switches_at_least, "(drawing)"),
                               (conway_by_relation, "(course)")):
            self.assertEqual((function.__module__, str(inspect.signature(function))), (changes.__name__, told))


class Firsts(unittest.TestCase):
    def test_values_that_are_first_ends(self):
        for course in [course for drawing in (CURL, KNOT, LINKED, UNLINKED, WOVEN, RING, Drawing(rings=9))
                       for course in some_courses(drawing)]:
            rights = [told for order in permutations(course.ends_in) for told in product(*order)]
            ends = [(at, number) for at in range(len(course)) for number in range(4)]
            wrongs = [told for many in range(3) for told in product(ends, repeat=many) if told not in rights]
            check_judged(self, lambda value: is_first_ends(course, value), rights, wrongs)
        self.assertIs(is_first_ends(Course(RING), ()), True)
        self.assertIs(is_first_ends(Course(LINKED), ((0, 0), (0, True))), False)

    def test_near_them(self):
        for course in COURSES:
            for firsts in some_firsts(course):
                self.assertIs(is_first_ends(course, firsts), True)
                if firsts:
                    turned = (course.drawing.opposite(firsts[0]),) + firsts[1:]
                    for value in (firsts[1:], firsts + firsts[:1], turned, list(firsts), firsts + ((0, 4),), firsts[:-1] + (None,)):
                        self.assertIs(is_first_ends(course, value), False)
            if len(course.ends_in) > 1:
                ends = course.ends_in[0]
                self.assertIs(is_first_ends(course, (ends[0], ends[-1]) + tuple(more[0] for more in course.ends_in[2:])), False)

    def test_refused(self):
        for value in ((), None, ((0, 0),)):
            check_arguments(self, lambda course: is_first_ends(course, value), ([Course(KNOT)], NO_COURSES, InvalidCourse))
        course, rights = Course(LINKED, 1), [None, ((1, 0), (0, 0))]
        wrongs = [value for value in wrong_but() if value is not None] + list(broken(((0, 0), (1, 0)))) + [
            ((0, 0),), ((0, 0), (0, 1)), ((0, 2), (1, 0)), [(0, 0), (1, 0)], (), ((0, 0), (1, 3)), ((0, 0), (1, 0), (0, 3))]
        wrongs = [value for value in wrongs if not is_first_ends(course, value)]
        self.assertIs(is_first_ends(course, rights[1]), True)
        for function in (going_down, is_going_down, apart_by):
            check_arguments(self, lambda told, firsts: function(told, firsts=firsts), ([course], NO_COURSES, InvalidCourse),
                            (rights, wrongs, InvalidEnd))
            check_arguments(self, function, ([course], NO_COURSES, InvalidCourse))
            self.assertIn(function(Course(RING), firsts=()), ((), True))
            for value in WRONG:
                if value is not None and not (type(value) is tuple and not value):
                    with self.assertRaises(InvalidEnd):
                        function(Course(RING), firsts=value)


class Down(unittest.TestCase):
    def test_crossings_passed_as_the_lower_string_first(self):
        for course in COURSES:
            firsts = tuple(ends[0] for ends in course.ends_in)
            self.assertEqual(going_down(course), plain_down(course, firsts))
            self.assertEqual((going_down(course, firsts=None), is_going_down(course)), (going_down(course), not going_down(course)))
            for firsts in some_firsts(course):
                told = going_down(course, firsts=firsts)
                check_plain(self, told)
                self.assertEqual(told, plain_down(course, firsts))
                self.assertIs(is_going_down(course, firsts=firsts), not told)
                up = tuple(at for at in range(len(course)) if at not in told)
                self.assertEqual(apart_by(course, firsts=firsts), up if len(up) < len(told) else told)
            self.assertEqual(apart_by(course), apart_by(course, firsts=None))

    def test_equally_long(self):
        told = [course for course in COURSES if len(course) == 2 * len(going_down(course)) > 0]
        self.assertTrue(told)
        for course in told:
            self.assertEqual(apart_by(course), going_down(course))

    def test_strings_come_apart(self):
        for course in COURSES:
            rings = Drawing(rings=min(9, course.drawing.many_strings))
            if rings.rings != course.drawing.many_strings:
                continue
            for firsts in some_firsts(course)[:2]:
                down = going_down(course, firsts=firsts)
                up = [at for at in range(len(course)) if at not in down]
                for chosen in (down, up, apart_by(course, firsts=firsts)):
                    told = switched_at(course, chosen)
                    self.assertEqual(kept_row(told), kept_row(Course(rings)))
                    self.assertEqual(conway_row(told).terms, {0: 1} if rings.rings == 1 else {})
                behind = switched_at(course, down)
                self.assertIs(is_going_down(behind, firsts=turned_firsts(firsts, down)), True)
                self.assertEqual(len(going_down(switched_at(course, up), firsts=turned_firsts(firsts, up))), len(course))

    def test_at_least_so_many(self):
        for drawing in ALL:
            course, strings = Course(drawing), range(len(drawing.strings))
            told = switches_at_least(drawing)
            self.assertEqual(told, sum(abs(course.linking(one, other)) for one, other in combinations(strings, 2)))
            self.assertEqual(type(told), int)
            for other in some_courses(drawing)[:3]:
                self.assertLessEqual(told, len(apart_by(other)))
        self.assertEqual([switches_at_least(some) for some in (RING, CHAIN, UNLINKED, Drawing(twisted(8)), apart(LINKED, LINKED),
                                                               Drawing(curls(9), rings=9))], [0, 2, 0, 4, 2, 0])
        check_arguments(self, switches_at_least, ([LINKED], NO_DRAWINGS, InvalidDrawing))

    def test_linking_numbers_are_not_enough(self):
        self.assertEqual((switches_at_least(KNOT), len(apart_by(Course(KNOT)))), (0, 1))
        self.assertEqual((switches_at_least(NINE), len(apart_by(Course(NINE)))), (0, 4))

    def test_one_crossing_more(self):
        for course in COURSES:
            for firsts in some_firsts(course)[:3]:
                down = going_down(course, firsts=firsts)
                for at in down:
                    told = going_down(course.switched(at), firsts=turned_firsts(firsts, [at]))
                    self.assertEqual(told, tuple(other for other in down if other != at))


class Relation(unittest.TestCase):
    def test_another_way(self):
        for course in COURSES:
            row = conway_by_relation(course)
            self.assertEqual((type(row), row), (Row, conway_row(course)))

    def test_courses_that_go_down(self):
        for course in COURSES:
            down = switched_at(course, going_down(course))
            self.assertEqual(conway_by_relation(down).terms, {0: 1} if course.drawing.many_strings == 1 else {})

    def test_three_courses(self):
        for course in COURSES:
            for at in range(0, len(course), 3):
                if course.drawing.rings < 8:
                    both = {other.signs[at]: conway_by_relation(other) for other in (course, course.switched(at))}
                    self.assertEqual(both[1] - both[-1], conway_by_relation(course.smoothed(at)).shifted(1))

    def test_no_move_changes_it(self):
        for drawing in (KNOT, EIGHT, REACHED[0], REACHED[1], CURL):
            if drawing.many_strings == 1:
                row = conway_by_relation(Course(drawing))
                for move in list(each_move(drawing))[::5]:
                    self.assertEqual(conway_by_relation(Course(moved(drawing, move))), row)

    def test_many_free_rings(self):
        for drawing in (Drawing(curls(9), rings=9), Drawing(CURL.crossings, rings=9), Drawing(KNOT.crossings, rings=9),
                        Drawing(rings=9), Drawing(twisted(9), rings=9)):
            for course in (Course(drawing), Course(drawing, *range(len(drawing.strings)))):
                self.assertEqual(conway_by_relation(course).terms, {})
        self.assertEqual(conway_by_relation(Course(RING)).terms, {0: 1})
        self.assertEqual([conway_by_relation(Course(NINE)).terms, conway_by_relation(Course(Drawing(twisted(5)))).terms],
                         [{0: 1, 2: 10, 4: 15, 6: 7, 8: 1}, {0: 1, 2: 3, 4: 1}])

    def test_a_course_that_goes_up_at_all_crossings(self):
        for drawing in REACHED[-6:] + [NINE]:
            course = Course(drawing)
            up = switched_at(course, [at for at in range(len(course)) if at not in going_down(course)])
            self.assertEqual(conway_by_relation(up), conway_row(up))
            self.assertEqual(conway_by_relation(up).terms, {0: 1} if drawing.many_strings == 1 else {})

    def test_refused(self):
        check_arguments(self, conway_by_relation, ([Course(KNOT)], NO_COURSES, InvalidCourse))

    def test_nothing_is_changed(self):
        course = Course(EIGHT, 0)
        told = [conway_by_relation(course), going_down(course), conway_by_relation(course), going_down(course)]
        self.assertEqual(told[:2], told[2:])
        self.assertEqual(course, Course(EIGHT, 0))


if __name__ == "__main__":
    unittest.main()
