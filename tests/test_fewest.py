"""The fewest crossings: stage 13, [0.16], and [0.1] to [0.7] as far as they reach it."""

import inspect
import unittest
from itertools import product

from crosswebs.bracket import fewest
from crosswebs.bracket.fewest import (blocks_alike, fewest_paper, is_alternate, is_fewest_paper, is_long, least_crossings,
                                      turning_number)
from crosswebs.bracket.smoothings import bracket, pure_circles
from crosswebs.draw.drawings import Drawing
from crosswebs.draw.joins import apart, summed
from crosswebs.draw.moves import each_move, moved
from crosswebs.errors import InvalidDrawing, InvalidOperation
from crosswebs.group.groups import determinant
from crosswebs.webs.shades import Shade, dark_of, drawing_of, light_of
from tests.plain_brackets import plain_bracket
from tests.plain_webs import bridges_of, rings_of
from tests.refusals import broken, check_arguments, check_judged, check_plain, check_refused, wrong_but
from tests.samples import (CURL, EIGHT, KNOT, LINKED, NINE, REACHED, RING, SAMPLES, SMALL, TWO_PIECES, WRONG, curls,
                           pattern, twisted)
from tests.test_shades import ROUNDS

NO_DRAWINGS = wrong_but(Drawing)
PLAIN = Drawing(((1, 2, 3, 0), (4, 0, 3, 5), (1, 4, 5, 2)))
ONE_PIECE = [drawing for drawing in SAMPLES + REACHED + [PLAIN] + SMALL[::9] if drawing.is_one_piece]
ONE_PIECE += [drawing_of(Shade(rounds, pattern(at, sum(map(len, rounds)) // 2))) for at, rounds in enumerate(ROUNDS[::2])]
ONE_PIECE += [summed(PLAIN, 0, PLAIN, 0), summed(PLAIN, 2, CURL.mirror, 0, crossed=True)]
SEVERAL = [RING, TWO_PIECES, apart(CURL, CURL), Drawing(CURL.crossings, rings=1), Drawing(curls(9), rings=9), Drawing(rings=9)]
# Long, but not alternate: a sum of a drawing and the mirror of one.
SQUARE = summed(KNOT, 0, KNOT.mirror, 0, crossed=True)


def dark_ties(drawing):
    return dark_of(drawing).web.ties


def has_both_signs(ties, ring):
    return len({ties[tie][2] for tie in ring}) == 2


def plain_papers(drawing):
    """All fewest papers of a drawing, but for long ones, with the rings that each tie has in long ones."""
    web = dark_of(drawing).web
    rings = rings_of(web.ties)
    told = [("bridge", tie) for tie in bridges_of(web.many, web.ties)]
    told += [("loop", tie) for tie, (a, b, _) in enumerate(web.ties) if a == b]
    told += [("mixed", ring) for ring in rings if has_both_signs(web.ties, ring)]
    return told, [[ring for ring in rings if tie in ring and len(ring) > 1] for tie in range(len(web))]


def long_papers(drawing):
    """All papers of the word long, if they are not too many."""
    _, rings = plain_papers(drawing)
    if sum(pure_circles(drawing)) != len(drawing) + 2:
        return []
    return [("long", pure_circles(drawing), chosen) for chosen in list(product(*rings))[:300]]


class Examples(unittest.TestCase):
    def test_alternate_and_alike(self):
        told = [[is_alternate(one) for one in (RING, CURL, LINKED, KNOT, EIGHT, PLAIN)],
                [turning_number(one) for one in (CURL, KNOT, EIGHT, PLAIN)], [blocks_alike(CURL), blocks_alike(PLAIN)]]
        self.assertEqual(told, [[True, True, True, True, True, False], [0, 0, 0, 1], [True, False]])

    def test_long(self):
        told = [[is_long(one) for one in (CURL, LINKED, KNOT, EIGHT, PLAIN)],
                [least_crossings(one) for one in (RING, CURL, LINKED, KNOT, EIGHT, PLAIN)], least_crossings(Drawing(rings=3))]
        self.assertEqual(told, [[False, True, True, True, False], [0, 0, 2, 3, 4, 0], 0])

    def test_papers(self):
        told = [is_fewest_paper(KNOT, ("long", (2, 3), ((0, 1), (1, 2), (0, 2)))),
                is_fewest_paper(KNOT, ("long", (2, 3), ((0, 1), (0, 2), (0, 2)))),
                is_fewest_paper(EIGHT, ("long", (3, 3), ((0, 1, 2), (0, 1, 3), (2, 3), (0, 1, 3))))]
        self.assertEqual(told, [True, False, True])
        told = [fewest_paper(CURL), is_fewest_paper(PLAIN, ("mixed", (0, 1, 2))), is_fewest_paper(PLAIN, ("mixed", (0, 2))),
                fewest_paper(LINKED), is_fewest_paper(CURL, ("loop", 0))]
        self.assertEqual(told, [("bridge", 0), True, False, ("long", (2, 2), ((0, 1), (0, 1))), False])


class Alternate(unittest.TestCase):
    def test_strands(self):
        for drawing in SAMPLES + REACHED + SMALL + SEVERAL:
            levels = {}
            for crossing in drawing.crossings:
                for number, strand in enumerate(crossing):
                    levels.setdefault(strand, []).append(number in (1, 3))
            self.assertIs(is_alternate(drawing), all(sum(told) == 1 for told in levels.values()))
        self.assertEqual([is_alternate(Drawing(rings=9)), is_alternate(NINE), is_alternate(TWO_PIECES),
                          is_alternate(apart(KNOT, PLAIN))], [True, True, True, False])

    def test_signs_of_the_dark_web(self):
        for drawing in ONE_PIECE:
            self.assertIs(is_alternate(drawing), len({sign for _, _, sign in dark_ties(drawing)}) == 1)
            self.assertIs(is_alternate(drawing), len(set(light_of(drawing).signs)) == 1)


class Alike(unittest.TestCase):
    def test_rings_of_both_signs(self):
        for drawing in ONE_PIECE:
            for ties in (dark_ties(drawing), light_of(drawing).web.ties):
                self.assertIs(blocks_alike(drawing), not any(has_both_signs(ties, ring) for ring in rings_of(ties)))

    def test_turning_numbers(self):
        for drawing in ONE_PIECE:
            lacking = len(drawing) + 2 - sum(pure_circles(drawing))
            self.assertEqual((2 * turning_number(drawing), type(turning_number(drawing))), (lacking, int))
            self.assertGreaterEqual(lacking, 0)
            self.assertIs(turning_number(drawing) == 0, blocks_alike(drawing))

    def test_spans(self):
        for drawing in ONE_PIECE:
            row = plain_bracket(drawing.crossings, drawing.rings)
            span, web = max(row) - min(row), dark_of(drawing).web
            self.assertLessEqual(span, 4 * len(drawing) - 4 * turning_number(drawing))
            self.assertIs(is_long(drawing), span == 4 * len(drawing))
            single = bridges_of(web.many, web.ties) or [tie for tie in web.ties if tie[0] == tie[1]]
            self.assertIs(is_long(drawing), blocks_alike(drawing) and not single)
        self.assertEqual([is_long(SQUARE), is_alternate(SQUARE), blocks_alike(SQUARE)], [True, False, True])
        self.assertEqual([is_long(NINE), turning_number(NINE), turning_number(PLAIN)], [True, 0, 1])
        self.assertEqual(turning_number(summed(PLAIN, 0, PLAIN, 0)), 2)
        twists = drawing_of(Shade(dark_of(NINE).rounds, (1, 1, 1, 1, -1, -1, -1, -1, -1)))
        self.assertEqual([turning_number(twists), bracket(twists).span, least_crossings(twists)], [1, 0, 0])


class Least(unittest.TestCase):
    def test_told(self):
        for drawing in SAMPLES + REACHED + SMALL[::5] + [PLAIN, SQUARE] + SEVERAL:
            span = bracket(drawing).span
            least = -(-span // 4)
            if determinant(drawing) == 0:
                least = max(0, least - drawing.many_strings + 1)
            self.assertEqual((least_crossings(drawing), type(least_crossings(drawing))), (least, int))
            self.assertLessEqual(least, len(drawing))

    def test_values(self):
        self.assertEqual([least_crossings(some) for some in (NINE, SQUARE, TWO_PIECES, apart(KNOT, LINKED), apart(KNOT, RING))],
                         [9, 6, 1, 4, 3])
        self.assertEqual([least_crossings(Drawing(rings=many)) for many in range(1, 10)], [0] * 9)
        self.assertEqual(least_crossings(Drawing(curls(9), rings=9)), 0)
        self.assertEqual(least_crossings(Drawing(twisted(8))), 8)

    def test_moves_keep_it(self):
        for drawing in (RING, CURL, LINKED, KNOT, EIGHT, PLAIN, TWO_PIECES, REACHED[0], REACHED[5], Drawing(twisted(4))):
            least = least_crossings(drawing)
            for move in list(each_move(drawing))[::7]:
                behind = moved(drawing, move)
                self.assertEqual(least_crossings(behind), least)
                self.assertLessEqual(least, len(behind))

    def test_long_drawings_have_the_fewest(self):
        for drawing in ONE_PIECE:
            if is_long(drawing):
                self.assertGreater(determinant(drawing), 0)
                self.assertEqual(least_crossings(drawing), len(drawing))
            if determinant(drawing) > 0:
                self.assertLessEqual(bracket(drawing).span, 4 * len(drawing))
        for drawing in SEVERAL:
            self.assertEqual(determinant(drawing) > 0, len(drawing.pieces) + drawing.rings == 1)


class Papers(unittest.TestCase):
    def test_a_paper_of_each_drawing(self):
        for drawing in ONE_PIECE:
            paper, (others, rings) = fewest_paper(drawing), plain_papers(drawing)
            check_plain(self, paper)
            self.assertIs(is_fewest_paper(drawing, paper), True)
            self.assertIs(paper[0] == "long", is_long(drawing))
            if paper[0] == "long":
                self.assertEqual((paper[1], sum(paper[1])), (pure_circles(drawing), len(drawing) + 2))
                self.assertTrue(all(ring in told for ring, told in zip(paper[2], rings)))
                self.assertEqual((others, len(paper), len(paper[2])), ([], 3, len(drawing)))
            else:
                self.assertIn(paper, others)

    def test_all_papers(self):
        for drawing in ONE_PIECE:
            others, rings = plain_papers(drawing)
            for paper in others + long_papers(drawing):
                self.assertIs(is_fewest_paper(drawing, paper), True, paper)
            for word in ("bridge", "loop"):
                for tie in range(-1, 11):
                    self.assertIs(is_fewest_paper(drawing, (word, tie)), (word, tie) in others)
            for number in range(2 ** min(len(drawing), 6)):
                ties = tuple(tie for tie in range(6) if (number >> tie) & 1)
                self.assertIs(is_fewest_paper(drawing, ("mixed", ties)), ("mixed", ties) in others)

    def test_values_like_papers(self):
        for drawing in (CURL, LINKED, KNOT, EIGHT, PLAIN, SQUARE, Drawing(((0, 1, 1, 0),)), REACHED[0], REACHED[1]):
            rights = plain_papers(drawing)[0] + long_papers(drawing)
            texts = {str(right) for right in rights}
            for right in rights[:4]:
                for value in broken(right):
                    if str(value) not in texts and value not in long_papers(drawing):
                        self.assertIs(is_fewest_paper(drawing, value), False, value)
            check_judged(self, lambda value: is_fewest_paper(drawing, value), rights[:0],
                         [("long",), ("long", pure_circles(drawing)), ("bridge",), ("mixed", ()), ("loop", None), ("tree", 0),
                          ("long", pure_circles(drawing), ()), ("long", (2, 3), None), (0, 0), ((), 0)])
            for value in WRONG:
                for paper in ((value, 0), ("mixed", value), ("mixed", (value,)), ("long", value, ((0, 1),) * len(drawing)),
                              ("long", pure_circles(drawing), value), ("long", pure_circles(drawing), (value,) * len(drawing)),
                              ("bridge", value, 0), value):
                    self.assertIs(is_fewest_paper(drawing, paper), False, paper)
                for word in ("bridge", "loop"):
                    self.assertIs(is_fewest_paper(drawing, (word, value)), False)

    def test_true_is_not_1(self):
        self.assertIs(is_fewest_paper(CURL, ("bridge", False)), False)
        self.assertIs(is_fewest_paper(Drawing(((0, 1, 1, 0),)), ("loop", 0)), True)
        self.assertIs(is_fewest_paper(Drawing(((0, 1, 1, 0),)), ("loop", False)), False)
        self.assertIs(is_fewest_paper(LINKED, ("long", (2, 2), ((0, True), (0, 1)))), False)
        self.assertIs(is_fewest_paper(LINKED, ("long", (2, 2), ((0, 1), (0, 1)))), True)
        self.assertIs(is_fewest_paper(PLAIN, ("mixed", (False, 1, 2))), False)

    def test_edges(self):
        ring = ((0, 1), (0, 1), (1, 2))
        for paper in (("long", (3, 2), ring), ("long", (2, 3), ring[:2]), ("long", (2, 3), ring + ring[:1]),
                      ("long", (2, 3), ((0, 1), (0, 2), (0, 1))), ("long", (2, 3), ((1, 0), (0, 1), (1, 2))),
                      ("long", (2, 3), ((0,), (0, 1), (1, 2))), ("long", (2, 3), ((0, 1, 2),) * 3), ("long", [2, 3], ring),
                      ("long", (2, 3), list(ring)), ["long", (2, 3), ring], ("mixed", (0, 1)), ("long", (2, 3), ring, ())):
            self.assertIs(is_fewest_paper(KNOT, paper), False, paper)
        self.assertIs(is_fewest_paper(KNOT, ("long", (2, 3), ring)), True)

    def test_rings_of_what_is_not_long(self):
        self.assertEqual((pure_circles(PLAIN), blocks_alike(PLAIN)), ((1, 2), False))
        self.assertIs(is_fewest_paper(PLAIN, ("long", (1, 2), ((0, 1, 2),) * 3)), False)
        loop = Drawing(((0, 1, 1, 0),))
        self.assertEqual((sum(pure_circles(loop)), fewest_paper(loop)), (3, ("loop", 0)))
        self.assertIs(is_fewest_paper(loop, ("long", pure_circles(loop), ((0,),))), False)

    def test_ties_that_there_are_not(self):
        for drawing in (PLAIN, KNOT, LINKED):
            many = len(drawing)
            for ring in ((0, many), (many,), (0, 1, many), (many, many + 1), (0, 9), (0, -1), (-1, 0)):
                self.assertIs(is_fewest_paper(drawing, ("mixed", ring)), False)
                self.assertIs(is_fewest_paper(drawing, ("long", pure_circles(drawing), ((0, 1),) * (many - 1) + (ring,))), False)
            for word in ("bridge", "loop"):
                self.assertIs(is_fewest_paper(drawing, (word, many)), False)


class Refused(unittest.TestCase):
    def test_wrong_arguments(self):
        for function in (is_alternate, least_crossings, blocks_alike, turning_number, is_long, fewest_paper):
            check_arguments(self, function, ([KNOT], NO_DRAWINGS, InvalidDrawing))
        for value in (("bridge", 0), None):
            check_arguments(self, lambda drawing: is_fewest_paper(drawing, value), ([KNOT], NO_DRAWINGS, InvalidDrawing))
        for drawing in SEVERAL:
            for function in (blocks_alike, turning_number, is_long, fewest_paper):
                check_refused(self, InvalidOperation, function, drawing)
            check_refused(self, InvalidOperation, is_fewest_paper, drawing, ("bridge", 0))

    def test_defined_here(self):
        for function in (is_alternate, blocks_alike, turning_number, is_long, least_crossings, fewest_paper):
            self.assertEqual((function.__module__, str(inspect.signature(function))), (fewest.__name__, "(drawing)"))
        self.assertEqual((is_fewest_paper.__module__, str(inspect.signature(is_fewest_paper))),
                         (fewest.__name__, "(drawing, value)"))


if __name__ == "__main__":
    unittest.main()
