"""Alexander's row and the signature: stage 16, [0.19], and [0.1] to [0.7] as far as they reach it."""

import inspect
import unittest

from crosswebs.base.rows import Row
from crosswebs.change.changes import conway_by_relation
from crosswebs.draw.courses import Course
from crosswebs.draw.drawings import Drawing
from crosswebs.draw.joins import apart, summed
from crosswebs.draw.moves import each_move, moved
from crosswebs.errors import InvalidCourse, InvalidNumber, InvalidOperation, InvalidRow
from crosswebs.group.groups import determinant, table_of
from crosswebs.pairs import alexander
from crosswebs.pairs.alexander import alexander_row, conway_row, determinant_told, in_powers, signature, weight_at
from crosswebs.webs.shades import Shade, dark_of, drawing_of, light_of
from tests.grown import GROWN
from tests.plain_brackets import plus, times
from tests.plain_pairs import dark_corners, plain_alexander, plain_signature_of, plain_weights
from tests.refusals import check_arguments, check_refused, wrong_but, wrong_indices
from tests.samples import (CURL, EIGHT, KNOT, LINKED, NINE, REACHED, RING, SAMPLES, SMALL, TWO_PIECES, WOVEN, curls, pattern,
                           shuffled, twisted)
from tests.test_courses import CHAIN, some_courses

NO_COURSES = wrong_but(Course)
UNLINKED = Drawing(((0, 1, 2, 3), (0, 3, 2, 1)))
# Drawings with all signs of the ties of some webs: also with tables that have zeros on the diagonal.
SIGNED = [drawing_of(shade(drawing).with_signs(pattern(number, len(drawing))))
          for drawing in (KNOT, EIGHT, Drawing(twisted(4))) for shade in (dark_of, light_of) for number in range(2 ** len(drawing))]
SIGNED += [drawing_of(shade(Drawing(twisted(many))).with_signs(pattern(number, many))) for many in (6, 8)
           for shade in (dark_of, light_of) for number in (0b01010101, 0b00110011, 0b10101100, 0b10010110)]
# Each of three places has two ties to the first place, and one of the other sign to each of the others.
EVEN = Shade((((0, 0), (1, 0), (2, 0), (3, 0), (4, 0), (5, 0)), ((0, 1), (8, 1), (6, 0), (1, 1)),
              ((2, 1), (6, 1), (7, 0), (3, 1)), ((4, 1), (7, 1), (8, 0), (5, 1))), (1,) * 6 + (-1,) * 3)
SIGNED += [drawing_of(EVEN), drawing_of(EVEN.with_signs((-1,) * 6 + (1,) * 3))]
ALL = SAMPLES + REACHED + [CHAIN, UNLINKED] + SMALL[::30] + SIGNED + GROWN[:14]
COURSES = [course for drawing in ALL for course in some_courses(drawing)[:4]]
ONE_PIECE = [course for course in COURSES if course.drawing.is_one_piece]
SEVERAL = [Course(drawing) for drawing in (RING, TWO_PIECES, apart(CURL, CURL), Drawing(CURL.crossings, rings=1),
                                           Drawing(curls(9), rings=9), Drawing(rings=9))]


def plain_powers(terms):
    """The row with x - x^-1 in the place of x, as a dict."""
    total = {}
    for exponent, many in terms.items():
        row = {0: many}
        for _ in range(exponent):
            row = times(row, {1: 1, -1: -1})
        total = plus(total, row)
    return total


def plain_signature(course, light):
    """The signature by one of both webs, by colours of corners and by the roots of the table."""
    drawing = course.drawing
    web = light_of(drawing).web if light else dark_of(drawing).web
    dark, weights, total = dark_corners(drawing.crossings), plain_weights(course), 0
    for at, (_, _, sign) in enumerate(web.ties):
        (opening,) = [(i, p) for (i, p), row in weights.items() if i == at and list(row.values()) == [-1]]
        total += sign if (opening in dark) == light else 0
    return total - plain_signature_of(table_of(web))


class Examples(unittest.TestCase):
    def test_rows(self):
        told = [str(alexander_row(Course(KNOT))), str(alexander_row(Course(EIGHT), strand=5)), str(alexander_row(Course(LINKED, 1))),
                [str(weight_at(Course(KNOT), 0, corner)) for corner in range(4)]]
        self.assertEqual(told, ["x^-2 - 1 + x^2", "-x^-2 + 3 - x^2", "-x^-1 + x", ["1", "-x^-1", "1", "x"]])

    def test_conway_rows(self):
        told = [str(conway_row(Course(KNOT))), str(conway_row(Course(EIGHT))), str(conway_row(Course(LINKED))),
                str(conway_row(Course(RING))), str(conway_row(Course(Drawing(rings=2))))]
        self.assertEqual(told, ["1 + x^2", "1 - x^2", "-x", "1", "0"])
        told = [in_powers(conway_row(Course(EIGHT))) == alexander_row(Course(EIGHT)),
                [determinant_told(conway_row(Course(some))) for some in (KNOT, EIGHT, LINKED, RING)]]
        self.assertEqual(told, [True, [3, 5, 2, 1]])

    def test_signatures(self):
        told = [signature(Course(KNOT)), signature(Course(KNOT.mirror)), signature(Course(EIGHT), light=True),
                signature(Course(LINKED)), signature(Course(LINKED, 0))]
        self.assertEqual(told, [-2, 2, 0, 1, -1])


class Weights(unittest.TestCase):
    def test_of_all_corners(self):
        for course in COURSES:
            for (at, corner), told in plain_weights(course).items():
                row = weight_at(course, at, corner)
                self.assertEqual((type(row), row.terms), (Row, told))

    def test_refused(self):
        check_arguments(self, weight_at, ([Course(EIGHT)], NO_COURSES, InvalidCourse), ([3], wrong_indices(4), InvalidNumber),
                        ([0, 3], wrong_indices(4), InvalidNumber))
        check_arguments(self, weight_at, ([Course(CURL)], NO_COURSES, InvalidCourse), ([0], wrong_indices(1), InvalidNumber),
                        ([2], wrong_indices(4), InvalidNumber))
        for value in wrong_indices(0):
            check_refused(self, InvalidNumber, weight_at, Course(RING), value, 0, kept=value)


class Alexander(unittest.TestCase):
    def test_out_of_all_pairings(self):
        for course in ONE_PIECE:
            if len(course) < 6:
                for strand in range(2 * len(course)):
                    row = alexander_row(course, strand=strand)
                    self.assertEqual((type(row), row.terms), (Row, plain_alexander(course, strand)))

    def test_whichever_strand_is_left_out(self):
        for course in ONE_PIECE:
            row = alexander_row(course)
            for strand in range(2 * len(course)):
                self.assertEqual(alexander_row(course, strand=strand), row)

    def test_by_the_relation(self):
        for course in ONE_PIECE:
            self.assertEqual(alexander_row(course).terms, plain_powers(conway_by_relation(course).terms))

    def test_refused(self):
        check_arguments(self, lambda course, strand: alexander_row(course, strand=strand),
                        ([Course(KNOT)], NO_COURSES, InvalidCourse), ([5], wrong_indices(6), InvalidNumber))
        for course in SEVERAL:
            for strand in (0, None, True, 99):
                with self.assertRaises(InvalidOperation):
                    alexander_row(course, strand=strand)

    def test_defined_here(self):
        for function, told in ((weight_at, "(course, crossing, corner)"), (alexander_row, "(course, *, strand=0)"),
                               (conway_row, "(course)"), (in_powers, "(row)"), (determinant_told, "(row)"),
                               (signature, "(course, *, light=False)")):
            self.assertEqual((function.__module__, str(inspect.signature(function))), (alexander.__name__, told))


class Conway(unittest.TestCase):
    def test_by_the_relation(self):
        for course in COURSES:
            row = conway_row(course)
            self.assertEqual((type(row), row), (Row, conway_by_relation(course)))
            if course.drawing.is_one_piece:
                self.assertEqual(plain_powers(row.terms), alexander_row(course).terms)
            self.assertTrue(all(exponent >= 0 for exponent in row.terms))

    def test_three_courses(self):
        for course in COURSES:
            for at in range(0, len(course), 1 if len(course) < 5 else 4):
                if course.drawing.rings < 8:
                    both = {other.signs[at]: conway_row(other) for other in (course, course.switched(at))}
                    self.assertEqual(both[1] - both[-1], conway_row(course.smoothed(at)).shifted(1))

    def test_pieces_and_free_rings(self):
        self.assertEqual(conway_row(Course(RING)).terms, {0: 1})
        for course in SEVERAL[1:] + [Course(apart(KNOT, RING)), Course(WOVEN), Course(apart(LINKED, EIGHT), 2)]:
            self.assertEqual(conway_row(course).terms, {})
        self.assertEqual([conway_row(Course(some)).terms for some in (CURL, UNLINKED)], [{0: 1}, {}])

    def test_exponents(self):
        for course in COURSES:
            row, many = conway_row(course), course.drawing.many_strings
            self.assertEqual({exponent % 2 for exponent in row.terms} | {(many + 1) % 2}, {(many + 1) % 2})
            if many == 1:
                self.assertEqual(row[0], 1)
            if len(course.drawing.strings) == many == 2:
                self.assertEqual(row[1], course.linking(0, 1))
            self.assertEqual(determinant_told(row), determinant(course.drawing))

    def test_turned_strings_and_mirrors(self):
        for course in COURSES:
            row = conway_row(course)
            self.assertEqual(conway_row(course.turned_round), row)
            other = course
            for at in range(len(course)):
                other = other.switched(at)
            self.assertEqual(other.drawing, course.drawing.mirror)
            self.assertEqual(conway_row(other).terms, {part: many * (-1) ** part for part, many in row.terms.items()})
            if course.drawing.is_one_piece:
                self.assertEqual(signature(other), -signature(course))
                self.assertEqual(signature(course.turned_round), signature(course))

    def test_other_numbers(self):
        for drawing in (KNOT, EIGHT, NINE, REACHED[8]):
            other = Drawing(shuffled(drawing.crossings))
            self.assertEqual({str(conway_row(course)) for course in some_courses(drawing)},
                             {str(conway_row(course)) for course in some_courses(other)})

    def test_refused(self):
        check_arguments(self, conway_row, ([Course(KNOT)], NO_COURSES, InvalidCourse))


class Powers(unittest.TestCase):
    rows = [{}, {0: 5}, {1: 1}, {2: 1}, {0: 1, 3: -2, 8: 7}, {99: 1}, {100: -3}, {0: 10 ** 59, 100: 1 - 10 ** 60},
            {part: part + 1 for part in range(0, 101, 9)}]

    def test_in_powers(self):
        for terms in self.rows:
            row = in_powers(Row(terms))
            self.assertEqual((type(row), row.terms), (Row, plain_powers(terms)))
        self.assertEqual(in_powers(conway_row(Course(NINE))), alexander_row(Course(NINE)))

    def test_integers_of_any_length(self):
        large = Row({0: 10 ** 59, 2: 3}).raised(4)
        self.assertEqual(in_powers(large).terms, plain_powers(large.terms))
        self.assertEqual(in_powers(large), in_powers(Row({0: 10 ** 59, 2: 3})).raised(4))
        self.assertEqual(determinant_told(large), (10 ** 59 - 12) ** 4)

    def test_refused(self):
        rows = [row for row in wrong_but(Row)]
        check_arguments(self, in_powers, ([Row({2: 1})], rows + [{0: 1}, "x", KNOT, 3], InvalidRow))
        for terms in ({-1: 1}, {-10000: 1}, {101: 1}, {0: 1, 101: -1}, {-1: 1, 101: 1}, {-2: 1, 2: 1}, {10000: 1}):
            check_refused(self, InvalidOperation, in_powers, Row(terms))
        check_arguments(self, determinant_told, ([Row({2: 1})], rows + [{0: 1}, "x", KNOT, 3], InvalidRow))
        for terms in ({-2: 1}, {-1: 1}, {0: 1, 1: 1}, {1: 1, 2: 1}, {-1: 1, 1: 1}, {-2: 1, 0: 3}, {-10000: 1}, {9999: 1, 10000: 1}):
            check_refused(self, InvalidOperation, determinant_told, Row(terms))

    def test_determinants(self):
        for terms, told in (({}, 0), ({0: 7}, 7), ({0: -7}, 7), ({2: 1}, 4), ({0: 1, 2: 1}, 3), ({0: 4, 2: 1}, 0), ({1: 1}, 2),
                            ({1: -3}, 6), ({1: 1, 3: 1}, 6), ({3: 5}, 40), ({0: 1, 4: 1}, 17), ({5: 1, 1: 1}, 34),
                            ({10000: 1}, 4 ** 5000), ({9999: -1}, 2 * 4 ** 4999), ({0: 1, 10000: 1}, 1 + 4 ** 5000)):
            self.assertEqual((determinant_told(Row(terms)), type(determinant_told(Row(terms)))), (told, int))


class Signatures(unittest.TestCase):
    def test_by_both_webs(self):
        for course in ONE_PIECE:
            told = plain_signature(course, False)
            self.assertEqual(plain_signature(course, True), told)
            for value in (signature(course), signature(course, light=False), signature(course, light=True)):
                self.assertEqual((value, type(value)), (told, int))

    def test_zeros_on_the_diagonal(self):
        told = [drawing for drawing in SIGNED if all(row[at] == 0 for at, row in enumerate(table_of(dark_of(drawing).web)))]
        told = [drawing for drawing in told if any(any(row) for row in table_of(dark_of(drawing).web))]
        self.assertEqual({plain_signature_of(table_of(dark_of(drawing).web)) for drawing in told}, {0, 1})
        self.assertEqual([table_of(EVEN.web), plain_signature_of(table_of(EVEN.web))], [((0, 1, 1), (1, 0, 1), (1, 1, 0)), -1])
        for drawing in told + [drawing_of(EVEN)]:
            self.assertEqual(signature(Course(drawing)), signature(Course(drawing), light=True))

    def test_values(self):
        self.assertEqual([signature(Course(Drawing(twisted(many)))) for many in (3, 5, 7, 9)],
                         [signature(Course(Drawing(twisted(3)))) * factor for factor in (1, 2, 3, 4)])
        self.assertEqual([signature(Course(some)) for some in (CURL, CURL.mirror, UNLINKED)], [0, 0, 0])
        self.assertEqual(signature(Course(summed(KNOT, 0, KNOT, 0))), -4)
        self.assertEqual(signature(Course(summed(KNOT, 0, KNOT.mirror, 0))), 0)

    def test_no_move_changes_it(self):
        for drawing in (KNOT, EIGHT, CURL, REACHED[0], REACHED[5], REACHED[1]):
            if drawing.many_strings > 1 or not drawing.is_one_piece:
                continue
            told = (signature(Course(drawing)), alexander_row(Course(drawing)), conway_row(Course(drawing)))
            for move in list(each_move(drawing))[::4]:
                behind = Course(moved(drawing, move))
                self.assertEqual(conway_row(behind), told[2])
                if behind.drawing.is_one_piece:
                    self.assertEqual((signature(behind), alexander_row(behind)), told[:2])

    def test_no_move_changes_those_of_all_courses(self):
        for drawing in (LINKED, Drawing(twisted(4)), UNLINKED, CHAIN, REACHED[3]):
            told = sorted([(signature(course), str(conway_row(course))) for course in some_courses(drawing)])
            for move in list(each_move(drawing))[::7]:
                behind = moved(drawing, move)
                if behind.is_one_piece:
                    rows = sorted([(signature(course), str(conway_row(course))) for course in some_courses(behind)])
                    self.assertEqual(rows, told)

    def test_one_string_turned(self):
        for course in ONE_PIECE:
            strings = range(len(course.drawing.strings))
            for string in strings:
                other = Course(course.drawing, *[at for at in strings if (at in course.backward) != (at == string)])
                links = sum(course.linking(string, at) for at in strings if at != string)
                self.assertEqual(signature(other), signature(course) + 2 * links)
            if len(strings) == 1:
                self.assertEqual(signature(course) % 2, 0)

    def test_refused(self):
        no_truths = [value for value in wrong_but() if value is not True and value is not False] + [0, 1]
        check_arguments(self, lambda course, light: signature(course, light=light), ([Course(KNOT)], NO_COURSES, InvalidCourse),
                        ([False, True], no_truths, InvalidOperation))
        for course in SEVERAL:
            for light in (False, True, None, 1):
                with self.assertRaises(InvalidOperation):
                    signature(course, light=light)


if __name__ == "__main__":
    unittest.main()
