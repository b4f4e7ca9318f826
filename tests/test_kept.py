"""Kept rows: stage 12, [0.15], and [0.1] to [0.7] as far as they reach it."""

import inspect
import unittest

from crosswebs.base.rows import Row
from crosswebs.bracket import kept
from crosswebs.bracket.kept import are_told_apart, bare_row, kept_by_trees, kept_row, kept_rows, relation_rows
from crosswebs.draw.courses import Course
from crosswebs.draw.drawings import Drawing
from crosswebs.draw.joins import apart, summed
from crosswebs.draw.moves import each_move, moved
from crosswebs.errors import InvalidCourse, InvalidDrawing, InvalidNumber, InvalidOperation, TooMany
from tests.plain_brackets import plain_bracket, plus, times
from tests.refusals import check_arguments, check_refused, wrong_but, wrong_indices
from tests.samples import (CURL, EIGHT, KNOT, LINKED, NINE, REACHED, RING, SAMPLES, SMALL, TWO_PIECES, WOVEN, curls, shuffled,
                           twisted)
from tests.test_courses import CHAIN, COURSES, plain_sign, some_courses

NO_DRAWINGS, NO_COURSES = wrong_but(Drawing), wrong_but(Course)
ALL = SAMPLES + REACHED + [CHAIN] + SMALL[::40]


def freed(row, winding):
    """A row, as a dict, times the power of -x^3 with a number that is negated."""
    return times(row, {-3 * winding: -1 if winding % 2 else 1})


def plain_kept(course):
    drawing = course.drawing
    return freed(plain_bracket(drawing.crossings, drawing.rings), sum(plain_sign(course, at) for at in range(len(drawing))))


def plain_bare(drawing):
    """The bare row, by the signs of the crossings that a string passes twice."""
    course = Course(drawing)
    own = [at for at in range(len(drawing)) if drawing.string_at((at, 0)) == drawing.string_at((at, 1))]
    return freed(plain_bracket(drawing.crossings, drawing.rings), sum(plain_sign(course, at) for at in own))


def thinned(told):
    """Some of the moves, of each kind, where there are many."""
    return [move for at, move in enumerate(told) if move[0] not in ("curl", "lap") or at % 17 == 0]


class Examples(unittest.TestCase):
    def test_rows(self):
        told = [str(kept_row(Course(KNOT))), str(kept_row(Course(EIGHT))), str(kept_row(Course(RING))),
                str(kept_row(Course(CURL))), str(bare_row(LINKED))]
        self.assertEqual(told, ["-x^-16 + x^-12 + x^-4", "x^-8 - x^-4 + 1 - x^4 + x^8", "1", "1", "-x^-4 - x^4"])

    def test_courses(self):
        told = [str(kept_row(Course(LINKED))), str(kept_row(Course(LINKED, 0))), [str(row) for row in kept_rows(LINKED)],
                kept_by_trees(Course(KNOT)) == bare_row(KNOT)]
        self.assertEqual(told, ["-x^2 - x^10", "-x^-10 - x^-2", ["-x^-10 - x^-2", "-x^2 - x^10"], True])

    def test_relation(self):
        plus_row, minus_row, smooth = relation_rows(Course(LINKED, 0), 0)
        told = [str(plus_row), str(minus_row), str(smooth),
                plus_row.shifted(4) - minus_row.shifted(-4) == smooth.shifted(-2) - smooth.shifted(2)]
        self.assertEqual(told, ["-x^-10 - x^-2", "-x^-2 - x^2", "1", True])

    def test_told_apart(self):
        told = [are_told_apart(KNOT, KNOT.mirror), are_told_apart(EIGHT, EIGHT.mirror), are_told_apart(LINKED, LINKED.mirror),
                kept_row(Course(KNOT)).at(1), kept_row(Course(LINKED)).at(1)]
        self.assertEqual(told, [True, False, False, 1, -2])


class Rows(unittest.TestCase):
    def test_kept_rows_of_courses(self):
        for course in COURSES:
            row = kept_row(course)
            self.assertEqual((type(row), row.terms), (Row, plain_kept(course)))

    def test_bare_rows(self):
        for drawing in ALL:
            row = bare_row(drawing)
            self.assertEqual((type(row), row.terms), (Row, plain_bare(drawing)))
            if drawing.many_strings == 1:
                self.assertEqual(row, kept_row(Course(drawing)))
        self.assertEqual([bare_row(Drawing(curls(9))).terms, bare_row(Drawing(rings=9)).terms],
                         [bare_row(Drawing(rings=9)).terms] * 2)
        self.assertEqual(bare_row(Drawing(curls(9), rings=9)).span, 4 * 17)

    def test_kept_rows_by_trees(self):
        for course in COURSES:
            if course.drawing.is_one_piece:
                self.assertEqual(kept_by_trees(course).terms, plain_kept(course))
            else:
                check_refused(self, InvalidOperation, kept_by_trees, course)

    def test_all_rows_of_a_drawing(self):
        for drawing in ALL:
            told = kept_rows(drawing)
            self.assertEqual((type(told), {type(row) for row in told}), (tuple, {Row}))
            texts = {str(kept_row(course)) for course in some_courses(drawing)}
            if len(drawing.strings) < 4:
                self.assertEqual([str(row) for row in told], sorted(texts))
            self.assertLessEqual(texts, {str(row) for row in told})
        self.assertEqual(len(kept_rows(Drawing(curls(9)))), 1)
        self.assertEqual([str(row) for row in kept_rows(Drawing(twisted(8)))],
                         sorted(str(kept_row(Course(Drawing(twisted(8)), *back))) for back in ((), (0,))))

    def test_texts_are_in_the_order_of_strings(self):
        chain = apart(LINKED, apart(LINKED, Drawing(twisted(4))))
        texts = [str(row) for row in kept_rows(chain)]
        self.assertEqual(texts, sorted(set(texts)))
        self.assertEqual(len(texts), 5)

    def test_told_apart(self):
        some = [RING, CURL, LINKED, KNOT, KNOT.mirror, EIGHT, NINE, TWO_PIECES, Drawing(rings=2), Drawing(twisted(4)),
                Drawing(twisted(4)).mirror]
        for one in some:
            for other in some:
                rows = [{str(kept_row(course)) for course in some_courses(drawing)} for drawing in (one, other)]
                self.assertIs(are_told_apart(one, other), rows[0] != rows[1])
        self.assertIs(are_told_apart(RING, CURL), False)
        self.assertIs(are_told_apart(Drawing(twisted(4)), Drawing(twisted(4)).mirror), True)


class Moves(unittest.TestCase):
    def test_no_move_changes_the_rows(self):
        for drawing in [drawing for drawing in SAMPLES + REACHED if len(drawing) < 7]:
            bare, rows = bare_row(drawing), kept_rows(drawing)
            for move in thinned(list(each_move(drawing))):
                behind = moved(drawing, move)
                self.assertEqual(bare_row(behind), bare)
                self.assertEqual(kept_rows(behind), rows)
                self.assertIs(are_told_apart(drawing, behind), False)
                if drawing.many_strings == 1:
                    self.assertEqual(kept_row(Course(behind, 0) if len(behind) else Course(behind)), bare)

    def test_several_moves(self):
        here = EIGHT
        for number in range(12):
            moves = [move for move in each_move(here) if len(moved(here, move)) < 9]
            moves = [move for move in moves if move[0] in ("slide", "unlap", "uncurl")] + moves
            here = moved(here, moves[(number * 37) % len(moves)])
            self.assertEqual(bare_row(here), bare_row(EIGHT))


class Statements(unittest.TestCase):
    def test_relation(self):
        for course in COURSES:
            if course.drawing.rings > 7 or len(course) > 7:
                continue
            for at in range(0, len(course), 1 if len(course) < 5 else 3):
                told = relation_rows(course, at)
                self.assertEqual([type(told)] + [type(row) for row in told], [tuple, Row, Row, Row])
                both = {sign: other for other in (course, course.switched(at)) for sign in [plain_sign(other, at)]}
                self.assertEqual([row.terms for row in told],
                                 [plain_kept(both[1]), plain_kept(both[-1]), plain_kept(course.smoothed(at))])
                self.assertEqual(plus(times(told[0].terms, {4: 1}), times(told[1].terms, {-4: -1})),
                                 times(told[2].terms, {-2: 1, 2: -1}))

    def test_turned_strings(self):
        for course in COURSES:
            row = kept_row(course)
            self.assertEqual(kept_row(course.turned_round), row)
            strings = course.drawing.many_strings
            self.assertEqual({exponent % 4 for exponent in row.terms}, {0 if strings % 2 else 2})
            self.assertEqual(row.at(1), (-2) ** (strings - 1))

    def test_mirrors(self):
        for drawing in ALL:
            turned = sorted(str(row.turned) for row in kept_rows(drawing))
            self.assertEqual([str(row) for row in kept_rows(drawing.mirror)], turned)

    def test_apart_and_sums(self):
        circle = Row({-2: -1, 2: -1})
        for one, other in ((KNOT, EIGHT), (LINKED, KNOT), (CURL, TWO_PIECES), (RING, WOVEN), (LINKED, LINKED.mirror)):
            for course in some_courses(one):
                for beside in some_courses(other):
                    both = apart(one, other)
                    into = [end for ends in course.ends_in for end in ends]
                    into += [(at + len(one), p) for ends in beside.ends_in for at, p in ends]
                    together = Course(both, *[at for at, string in enumerate(both.strings) if string[0] not in into])
                    self.assertEqual(kept_row(together), kept_row(course) * kept_row(beside) * circle)
        for one, other in ((KNOT, EIGHT), (KNOT, KNOT.mirror), (CURL, KNOT), (EIGHT, EIGHT)):
            for strand, crossed in ((0, False), (1, True)):
                row = kept_row(Course(summed(one, strand, other, strand, crossed=crossed)))
                self.assertEqual(row, kept_row(Course(one)) * kept_row(Course(other)))

    def test_other_numbers(self):
        for drawing in (KNOT, EIGHT, WOVEN, TWO_PIECES):
            other = Drawing(shuffled(drawing.crossings), rings=drawing.rings)
            self.assertEqual((bare_row(other), kept_rows(other)), (bare_row(drawing), kept_rows(drawing)))
            self.assertEqual(bare_row(drawing.mirror.mirror), bare_row(drawing))


class Refused(unittest.TestCase):
    def test_wrong_arguments(self):
        for function in (kept_row, kept_by_trees):
            check_arguments(self, function, ([Course(KNOT)], NO_COURSES, InvalidCourse))
        for function in (bare_row, kept_rows):
            check_arguments(self, function, ([KNOT], NO_DRAWINGS, InvalidDrawing))
        check_arguments(self, are_told_apart, ([KNOT, RING], NO_DRAWINGS, InvalidDrawing), ([RING], NO_DRAWINGS, InvalidDrawing))
        check_arguments(self, relation_rows, ([Course(EIGHT)], NO_COURSES, InvalidCourse),
                        ([3], wrong_indices(4), InvalidNumber))
        for drawing in (RING, TWO_PIECES, WOVEN, Drawing(CURL.crossings, rings=1), Drawing(curls(9), rings=9)):
            for course in some_courses(drawing)[:2]:
                check_refused(self, InvalidOperation, kept_by_trees, course)
        for value in wrong_indices(0):
            check_refused(self, InvalidNumber, relation_rows, Course(RING), value, kept=value)

    def test_too_many_free_rings(self):
        for drawing, at in ((Drawing(CURL.crossings, rings=8), 0), (Drawing(CURL.crossings, rings=9), 0),
                            (Drawing(curls(3), rings=8), 1)):
            with self.assertRaises(TooMany) as caught:
                relation_rows(Course(drawing), at)
            self.assertEqual(caught.exception.limit, 9)
            check_refused(self, InvalidNumber, relation_rows, Course(drawing), True, kept=True)
        rows = relation_rows(Course(Drawing(CURL.crossings, rings=7)), 0)
        self.assertEqual(rows[2], kept_row(Course(Drawing(rings=9))))
        self.assertEqual(len(relation_rows(Course(Drawing(KNOT.crossings, rings=9)), 1)), 3)

    def test_defined_here(self):
        for function, told in ((kept_row, "(course)"), (bare_row, "(drawing)"), (kept_by_trees, "(course)"),
                               (relation_rows, "(course, crossing)"), (kept_rows, "(drawing)"), (are_told_apart, "(one, other)")):
            self.assertEqual((function.__module__, str(inspect.signature(function))), (kept.__name__, told))

    def test_nothing_is_changed(self):
        course = Course(LINKED, 1)
        told = [relation_rows(course, 0), relation_rows(course, 0)]
        self.assertEqual(told[0], told[1])
        self.assertEqual(course, Course(LINKED, 1))


if __name__ == "__main__":
    unittest.main()
