"""Courses: stage 6, and [0.1] to [0.5] as far as they reach it."""

import inspect
import unittest

from crosswebs.draw import courses
from crosswebs.draw.courses import Course, each_course
from crosswebs.draw.drawings import Drawing
from crosswebs.errors import InvalidCourse, InvalidDrawing, InvalidNumber, InvalidOperation, TooMany
from tests.plain import all_ends, classes, joined_ends
from tests.refusals import (check_arguments, check_equality, check_generator, check_interface, check_plain, check_refused,
                            wrong_but, wrong_indices)
from tests.samples import (CURL, EIGHT, KNOT, LINKED, NINE, REACHED, RING, SAMPLES, SMALL, TWO_PIECES, WOVEN, WRONG, curls,
                           shuffled, twisted)

NO_DRAWINGS = wrong_but(Drawing)
# Where an end lies, seen from its crossing.
SPOTS = ((1, 0), (0, 1), (-1, 0), (0, -1))
CHAIN = Drawing(((0, 1, 2, 3), (1, 0, 4, 5), (6, 7, 5, 4), (7, 6, 3, 2)))


def choices(many):
    """All ascending tuples of indices below a number, ascending."""
    return sorted(tuple(at for at in range(many) if (number >> at) & 1) for number in range(2 ** many))


def some_courses(drawing):
    """Courses of a drawing: all, if they are few."""
    told = choices(len(drawing.strings))
    return [Course(drawing, *backward) for backward in (told if len(told) <= 8 else told[::len(told) // 7])]


COURSES = [course for drawing in SAMPLES + REACHED + [CHAIN] + SMALL[::40] for course in some_courses(drawing)]


def plain_sign(course, at):
    """The sign of a crossing by how the lower and the upper string go."""
    into = [end for string in course.ends_in for end in string]
    lower, upper = [next(p for p in pair if (at, p) in into) for pair in ((0, 2), (1, 3))]
    (a, b), (c, d) = [(-SPOTS[p][0], -SPOTS[p][1]) for p in (lower, upper)]
    return c * b - d * a


def without(crossings, at, pairs):
    """The joined ends behind a crossing is taken away, with some pairs of its ends joined, and the rings that come of it."""
    partner = dict(joined_ends(crossings) + [pair[::-1] for pair in joined_ends(crossings)])
    across = {(at, p): (at, q) for pair in pairs for p, q in (pair, pair[::-1])}
    left = set()
    for end in all_ends(crossings):
        if end[0] != at:
            other = partner[end]
            while other[0] == at:
                other = partner[across[other]]
            left.add(frozenset((i - (i > at), p) for i, p in (end, other)))
    groups = classes(all_ends(crossings), joined_ends(crossings) + list(across.items()))
    return left, sum(all(i == at for i, _ in group) for group in groups)


class Examples(unittest.TestCase):
    def test_signs_and_windings(self):
        told = [Course(KNOT).signs, Course(KNOT, 0).winding, Course(EIGHT).signs, Course(CURL).winding, str(Course(LINKED))]
        self.assertEqual(told, [(1, 1, 1), 3, (1, 1, -1, -1), 1, "course of 2 crossings, 2 strings, winding -2"])

    def test_directions(self):
        against = Course(LINKED, 1)
        told = [against.ends_in, against.signs, against.windings, Course(LINKED).linking(0, 1), against.linking(1, 0),
                (0, 1) in against, (0, 3) in against]
        self.assertEqual(told, [(((0, 0), (1, 3)), ((1, 0), (0, 3))), (1, 1), (0, 0), -1, 1, False, True])

    def test_smoothed_and_all(self):
        told = [Course(KNOT).smoothed(0) == Course(LINKED, 1), Course(CURL).smoothed(0).drawing == Drawing(rings=2),
                [course.backward for course in each_course(LINKED)]]
        self.assertEqual(told, [True, True, [(), (0,), (0, 1), (1,)]])

    def test_switched(self):
        other = Course(KNOT).switched(0)
        told = [other.drawing.crossings[0], other.backward, other.signs, other.ends_in[0][:2],
                Course(LINKED, 1).turned_round.backward, len(other)]
        self.assertEqual(told, [(1, 2, 3, 0), (0,), (-1, 1, 1), ((2, 0), (1, 3)), (0,), 3])


class Made(unittest.TestCase):
    def test_what_is_kept(self):
        for course in COURSES:
            again = Course(course.drawing, *course.backward[::-1])
            self.assertEqual((again.drawing, again.backward), (course.drawing, course.backward))
            check_plain(self, (course.backward, course.ends_in, course.signs, course.windings, course.winding))
        self.assertEqual(Course(Drawing(curls(5)), 4, 0, 2).backward, (0, 2, 4))
        self.assertEqual(Course(RING).backward, ())

    def test_refused(self):
        for drawing, many in ((LINKED, 2), (TWO_PIECES, 3), (WOVEN, 3), (Drawing(curls(9)), 9)):
            check_arguments(self, Course, ([drawing], NO_DRAWINGS, InvalidDrawing), ([1], wrong_indices(many), InvalidNumber),
                            ([0], wrong_indices(many), InvalidNumber))
        for drawing, many in ((KNOT, 1), (RING, 0), (Drawing(rings=9), 0), (CURL, 1)):
            check_arguments(self, Course, ([drawing], NO_DRAWINGS, InvalidDrawing), ([0], wrong_indices(many), InvalidNumber))

    def test_a_string_that_is_backward_twice(self):
        for drawing, backward in ((KNOT, (0, 0)), (LINKED, (1, 0, 1)), (TWO_PIECES, (2, 2)), (Drawing(curls(9)), (8, 3, 8))):
            check_refused(self, InvalidCourse, Course, drawing, *backward)
            check_refused(self, InvalidNumber, Course, drawing, *backward, True, kept=True)
            check_refused(self, InvalidNumber, Course, drawing, *backward, 9, None, kept=9)
            check_refused(self, InvalidNumber, Course, drawing, -1, *backward, kept=-1)

    def test_free_rings_have_no_index(self):
        check_refused(self, InvalidNumber, Course, RING, 0, kept=0)
        check_refused(self, InvalidNumber, Course, TWO_PIECES, 3, kept=3)

    def test_interface(self):
        check_interface(
            self, Course(KNOT), ("drawing", "backward", "ends_in", "signs", "winding", "windings", "turned_round"),
            ("__init__", "linking", "switched", "smoothed", "__contains__", "__len__", "__iter__", "__eq__", "__str__"))
        self.assertEqual((Course.__module__, each_course.__module__), (courses.__name__,) * 2)
        for made, told in ((Course, "(drawing, *backward)"), (Course(KNOT).linking, "(one, other)"), (each_course, "(drawing)"),
                           (Course(KNOT).switched, "(crossing)"), (Course(KNOT).smoothed, "(crossing)")):
            self.assertEqual(str(inspect.signature(made)), told)


class Directions(unittest.TestCase):
    def test_ends_in(self):
        for course in COURSES:
            drawing = course.drawing
            self.assertEqual(len(course.ends_in), len(drawing.strings))
            for at, (ends, string) in enumerate(zip(course.ends_in, drawing.strings)):
                if at in course.backward:
                    self.assertEqual(ends, tuple(drawing.opposite(end) for end in reversed(string)))
                else:
                    self.assertEqual(ends, string)
                for end, following in zip(ends, ends[1:] + ends[:1]):
                    self.assertEqual(drawing.partner(drawing.opposite(end)), following)

    def test_ends_in_a_course(self):
        for course in COURSES:
            into = [end for string in course.ends_in for end in string]
            for end in all_ends(course.drawing.crossings):
                self.assertIs(end in course, end in into)
                self.assertIs(list(end) in course, False)
                self.assertIs((*end, 0) in course, False)
            for value in WRONG + [(0, 4), (-1, 0), (len(course), 0), (True, 0), (0, True), (False, False), 0, (), ((0, 0),)]:
                self.assertIs(value in course, False)
                self.assertIs(value not in course, True)
        self.assertIs((0, True) in Course(LINKED), False)
        self.assertIs((0, 1) in Course(LINKED), True)

    def test_signs(self):
        for course in COURSES:
            self.assertEqual(course.signs, tuple(plain_sign(course, at) for at in range(len(course))))
            self.assertEqual((len(course), list(course)), (len(course.drawing), list(course.signs)))

    def test_turned_round(self):
        for course in COURSES:
            turned = course.turned_round
            self.assertIs(type(turned), Course)
            self.assertEqual(turned.drawing, course.drawing)
            self.assertEqual(sorted(turned.backward + course.backward), list(range(len(course.drawing.strings))))
            self.assertEqual((turned.signs, turned.windings), (course.signs, course.windings))
            self.assertEqual(turned.turned_round, course)
            self.assertEqual({end for string in turned.ends_in for end in string},
                             {course.drawing.opposite(end) for string in course.ends_in for end in string})

    def test_one_string_turned(self):
        for course in COURSES:
            strings = range(len(course.drawing.strings))
            for string in strings:
                other = Course(course.drawing, *[at for at in strings if (at in course.backward) != (at == string)])
                for at, (sign, was) in enumerate(zip(other.signs, course.signs)):
                    passed = [course.drawing.string_at((at, p)) for p in (0, 1)]
                    self.assertEqual(sign, -was if passed.count(string) == 1 else was)
                self.assertEqual(other.windings, course.windings)
                for one in strings:
                    if one != string:
                        self.assertEqual(other.linking(one, string), -course.linking(one, string))

    def test_windings_and_linking_numbers(self):
        for course in COURSES:
            drawing, strings = course.drawing, range(len(course.drawing.strings))
            self.assertEqual(course.winding, sum(course.signs))
            passed = [sorted(drawing.string_at((at, p)) for p in (0, 1)) for at in range(len(course))]
            for one in strings:
                told = [sign for sign, pair in zip(course.signs, passed) if pair == [one, one]]
                self.assertEqual(course.windings[one], sum(told))
                for other in strings:
                    if one != other:
                        told = sum(sign for sign, pair in zip(course.signs, passed) if pair == sorted([one, other]))
                        self.assertEqual(2 * course.linking(one, other), told)
                        self.assertIs(type(course.linking(one, other)), int)
            self.assertEqual(len(course.windings), len(strings))
        self.assertEqual([Course(Drawing(twisted(8)), *back).linking(0, 1) for back in ((), (0,), (1,), (1, 0))],
                         [-4, 4, 4, -4])
        self.assertEqual(Course(TWO_PIECES).linking(0, 2), 0)

    def test_linking_is_refused(self):
        course = Course(TWO_PIECES, 1)
        check_arguments(self, course.linking, ([0, 1, 2], wrong_indices(3), InvalidNumber),
                        ([2], wrong_indices(3), InvalidNumber))
        for string in range(3):
            check_refused(self, InvalidOperation, course.linking, string, string)
        for value in [0, 1] + WRONG:
            check_refused(self, InvalidNumber, Course(RING).linking, value, 0, kept=value)
            check_refused(self, InvalidNumber, Course(RING).linking, value, value, kept=value)
        check_refused(self, InvalidOperation, Course(KNOT).linking, 0, 0)
        check_refused(self, InvalidNumber, Course(KNOT).linking, 0, 1, kept=1)
        check_refused(self, InvalidNumber, Course(LINKED).linking, True, True, kept=True)


class Changed(unittest.TestCase):
    def test_switched(self):
        for course in COURSES:
            for at in range(len(course)):
                other, crossings = course.switched(at), list(course.drawing.crossings)
                a, b, c, d = crossings[at]
                crossings[at] = (b, c, d, a)
                self.assertEqual(other.drawing, Drawing(tuple(crossings), rings=course.drawing.rings))
                self.assertEqual({end for string in other.ends_in for end in string},
                                 {(i, (p + 3) % 4 if i == at else p) for string in course.ends_in for i, p in string})
                self.assertEqual(other.signs, tuple(-sign if i == at else sign for i, sign in enumerate(course.signs)))

    def test_smoothed(self):
        for course in COURSES:
            for at in range(len(course)):
                if course.drawing.rings > 7:
                    continue
                other = course.smoothed(at)
                pairs = ((0, 1), (2, 3)) if course.signs[at] == 1 else ((1, 2), (3, 0))
                left, rings = without(course.drawing.crossings, at, pairs)
                self.assertEqual({frozenset(pair) for pair in joined_ends(other.drawing.crossings)}, left)
                self.assertEqual(other.drawing.rings, course.drawing.rings + rings)
                self.assertEqual(other.drawing.numbered, other.drawing)
                self.assertEqual({end for string in other.ends_in for end in string},
                                 {(i - (i > at), p) for string in course.ends_in for i, p in string if i != at})
                self.assertEqual(other.signs, course.signs[:at] + course.signs[at + 1:])
                twice = course.drawing.string_at((at, 0)) == course.drawing.string_at((at, 1))
                self.assertEqual(other.drawing.many_strings, course.drawing.many_strings + (1 if twice else -1))

    def test_too_many_free_rings(self):
        for drawing, at in ((Drawing(CURL.crossings, rings=8), 0), (Drawing(CURL.crossings, rings=9), 0),
                            (Drawing(curls(3), rings=8), 1), (Drawing(((0, 1, 1, 2), (2, 0, 3, 3)), rings=9), 0)):
            with self.assertRaises(TooMany) as caught:
                Course(drawing).smoothed(at)
            self.assertEqual(caught.exception.limit, 9)
        self.assertEqual(Course(Drawing(CURL.crossings, rings=7)).smoothed(0).drawing, Drawing(rings=9))
        self.assertEqual(Course(Drawing(((0, 1, 1, 2), (2, 0, 3, 3)), rings=8)).smoothed(0).drawing.rings, 9)
        self.assertEqual(Course(Drawing(KNOT.crossings, rings=9)).smoothed(2).drawing.rings, 9)

    def test_refused(self):
        for course in (Course(KNOT), Course(Drawing(KNOT.crossings, rings=9)), Course(Drawing(curls(9), rings=9), 3)):
            check_arguments(self, course.switched, ([0], wrong_indices(len(course)), InvalidNumber))
            check_arguments(self, course.smoothed, ([0], wrong_indices(len(course)), InvalidNumber))
        for value in [0] + WRONG:
            check_refused(self, InvalidNumber, Course(RING).switched, value, kept=value)
            check_refused(self, InvalidNumber, Course(RING).smoothed, value, kept=value)

    def test_nothing_is_changed(self):
        course = Course(Drawing(shuffled(EIGHT.crossings), rings=2), 0)
        told = (course.drawing.crossings, course.backward, course.signs, course.ends_in)
        for at in range(4):
            self.assertEqual(course.switched(at), course.switched(at))
            self.assertEqual(course.smoothed(at), course.smoothed(at))
        self.assertEqual((course.drawing.crossings, course.backward, course.signs, course.ends_in), told)


class Signs(unittest.TestCase):
    def test_texts(self):
        self.assertEqual(str(Course(KNOT)), "course of 3 crossings, 1 strings, winding 3")
        self.assertEqual(str(Course(RING)), "course of 0 crossings, 1 strings, winding 0")
        self.assertEqual(str(Course(TWO_PIECES, 1)), "course of 3 crossings, 4 strings, winding 3")
        self.assertEqual(str(Course(NINE)), "course of 9 crossings, 1 strings, winding -9")
        for course in COURSES:
            self.assertEqual(str(course), f"course of {len(course.drawing)} crossings, {course.drawing.many_strings} strings, "
                                          f"winding {course.winding}")

    def test_equal_courses(self):
        members = [Course(KNOT), Course(KNOT, 0), Course(LINKED), Course(LINKED, 0), Course(LINKED, 1), Course(LINKED, 0, 1),
                   Course(RING), Course(Drawing(rings=2)), Course(KNOT.mirror), Course(TWO_PIECES, 2)]
        check_equality(self, members,
                       lambda course: Course(Drawing(course.drawing.crossings, rings=course.drawing.rings),
                                             *course.backward[::-1]),
                       [KNOT, LINKED, (), (0,), (KNOT, 0), Course(KNOT).signs, str(Course(KNOT)), 0, 3])

    def test_signs_that_there_are_not(self):
        course = Course(KNOT)
        for call in (lambda: course + course, lambda: course < course, lambda: course[0], lambda: -course, lambda: course * 2):
            with self.assertRaises(TypeError):
                call()


class Each(unittest.TestCase):
    def test_all_courses_in_order(self):
        for drawing in SAMPLES + REACHED + [CHAIN]:
            told = [course.backward for course in each_course(drawing)]
            self.assertEqual(told, choices(len(drawing.strings)))
            self.assertTrue(all(type(course) is Course and course.drawing == drawing for course in each_course(drawing)))
        self.assertEqual(len(list(each_course(Drawing(curls(9))))), 512)
        self.assertEqual([course.backward for course in each_course(RING)], [()])
        self.assertEqual([course.backward for course in each_course(WOVEN)],
                         [(), (0,), (0, 1), (0, 1, 2), (0, 2), (1,), (1, 2), (2,)])

    def test_one_by_one(self):
        made = each_course(LINKED)
        self.assertEqual([next(made).backward, next(made).backward], [(), (0,)])

    def test_refused(self):
        check_generator(self, each_course, ([RING], NO_DRAWINGS, InvalidDrawing))


if __name__ == "__main__":
    unittest.main()
