"""Brackets by smoothings: stage 9, [0.10], [0.14], and [0.1] to [0.5] as far as they reach it."""

import inspect
import unittest
from itertools import product
from random import Random

from crosswebs.base.rows import Row
from crosswebs.bracket import smoothings
from crosswebs.bracket.smoothings import (bracket, circles, count_circles, each_smoothing, is_smoothing, pure_circles,
                                          smoothed)
from crosswebs.draw.drawings import Drawing
from crosswebs.draw.joins import apart, summed
from crosswebs.errors import InvalidDrawing, InvalidNumber, InvalidSmoothing, TooMany
from tests.grown import GROWN, LARGE
from tests.plain_brackets import circle_groups, circles_to, plain_bracket, times
from tests.plain_moves import Ends
from tests.refusals import check_arguments, check_generator, check_judged, check_plain, check_refused, wrong_but, wrong_indices
from tests.samples import (CURL, EIGHT, KNOT, LINKED, NINE, REACHED, RING, SAMPLES, SMALL, TWO_PIECES, WRONG, curls, shuffled,
                           twisted)

NO_DRAWINGS = wrong_but(Drawing)
ALL = SAMPLES + REACHED + SMALL[::20]
SHORT = [drawing for drawing in ALL if len(drawing) <= 5]
CIRCLE = Row({-2: -1, 2: -1})


def all_smoothings(drawing):
    return list(product((0, 1), repeat=len(drawing)))


def plain_smoothed(drawing, at, way):
    """The crossings and the number of rings behind a crossing is smoothed, by which ends are joined."""
    ends = Ends(drawing.crossings, drawing.rings)
    across = {(at, p): (at, q) for pair in (((0, 1), (2, 3)), ((1, 2), (3, 0)))[way] for p, q in (pair, pair[::-1])}
    left = {}
    for end in ends.joined:
        if end[0] != at:
            other = ends.joined[end]
            while other[0] == at:
                other = ends.joined[across[other]]
            left[end] = other
    passed, more = set(), 0
    for end in across:
        told, here = [], end
        while here not in told and here[0] == at:
            told += [here, across[here]]
            here = ends.joined[across[here]]
        if here == end and end not in passed:
            more += 1
            passed.update(told)
    ends.joined = {(i - (i > at), p): (k - (k > at), r) for (i, p), (k, r) in left.items()}
    ends.many -= 1
    return ends.table()[0], drawing.rings + more


class Examples(unittest.TestCase):
    def test_circles(self):
        told = [circles(CURL, (0,)), circles(CURL, (1,)), count_circles(RING, ()), list(each_smoothing(LINKED))[:3],
                pure_circles(KNOT), circles(KNOT, (0, 0, 0))]
        self.assertEqual(told, [((0,), (1,)), ((0, 1),), 1, [(0, 0), (0, 1), (1, 0)], (2, 3), ((0, 1, 4), (2, 3, 5))])

    def test_brackets(self):
        told = [bracket(RING).terms, bracket(Drawing(rings=3)).terms, bracket(CURL).terms, bracket(LINKED).terms,
                bracket(KNOT).terms]
        self.assertEqual(told, [{0: 1}, {-4: 1, 0: 2, 4: 1}, {3: -1}, {-4: -1, 4: -1}, {-7: 1, -3: -1, 5: -1}])
        told = [bracket(EIGHT).terms, bracket(EIGHT.behind) == bracket(EIGHT), is_smoothing(KNOT, (0, 1, True)),
                pure_circles(EIGHT)]
        self.assertEqual(told, [{-8: 1, -4: -1, 0: 1, 4: -1, 8: 1}, True, False, (3, 3)])

    def test_smoothed(self):
        told = [smoothed(KNOT, 0, 0) == LINKED, smoothed(KNOT, 0, 1).crossings, smoothed(CURL, 0, 0) == Drawing(rings=2),
                smoothed(CURL, 0, 1) == RING]
        self.assertEqual(told, [True, ((0, 1, 1, 2), (3, 0, 2, 3)), True, True])


class Smoothings(unittest.TestCase):
    def test_all_in_order(self):
        for drawing in ALL:
            self.assertEqual(list(each_smoothing(drawing)), all_smoothings(drawing))
            for smoothing in each_smoothing(drawing):
                check_plain(self, smoothing)
                self.assertIs(is_smoothing(drawing, smoothing), True)
        self.assertEqual([list(each_smoothing(Drawing(rings=many))) for many in (1, 9)], [[()], [()]])
        self.assertEqual(len(list(each_smoothing(NINE))), 512)

    def test_values_that_are_no_smoothings(self):
        for drawing in (RING, CURL, LINKED, KNOT, EIGHT, TWO_PIECES, Drawing(rings=9)):
            many = len(drawing)
            check_judged(self, lambda value: is_smoothing(drawing, value), all_smoothings(drawing),
                         [(0,) * (many + 1), (2,) * (many or 1), (-1,) * (many or 1), [0] * many, (True,) * (many or 1),
                          (False,) * (many or 1), (0,) * (many - 1) if many else (0,), "0" * many, (10 ** 60,) * (many or 1)])

    def test_one_by_one(self):
        made = each_smoothing(NINE)
        self.assertEqual([next(made), next(made)], [(0,) * 9, (0,) * 8 + (1,)])

    def test_refused(self):
        check_generator(self, each_smoothing, ([CURL], NO_DRAWINGS, InvalidDrawing))
        for value in ((0,), None):
            check_arguments(self, lambda drawing: is_smoothing(drawing, value), ([CURL], NO_DRAWINGS, InvalidDrawing))
        for function in (pure_circles, bracket):
            check_arguments(self, function, ([CURL], NO_DRAWINGS, InvalidDrawing))

    def test_defined_here(self):
        for function, told in ((is_smoothing, "(drawing, value)"), (each_smoothing, "(drawing)"), (bracket, "(drawing)"),
                               (circles, "(drawing, smoothing)"), (count_circles, "(drawing, smoothing)"),
                               (pure_circles, "(drawing)"), (smoothed, "(drawing, crossing, way)")):
            self.assertEqual((function.__module__, str(inspect.signature(function))), (smoothings.__name__, told))


class Circles(unittest.TestCase):
    def test_circles_of_strands(self):
        for drawing in ALL:
            for smoothing in all_smoothings(drawing)[::5]:
                groups = circle_groups(drawing.crossings, smoothing)
                told = sorted(tuple(sorted({drawing.crossings[i][p] for i, p in group})) for group in groups)
                self.assertEqual(circles(drawing, smoothing), tuple(told))
                self.assertEqual(count_circles(drawing, smoothing), len(groups) + drawing.rings)
                self.assertEqual(sorted(strand for circle in circles(drawing, smoothing) for strand in circle),
                                 list(range(2 * len(drawing))))
                check_plain(self, circles(drawing, smoothing))
        self.assertEqual((circles(RING, ()), circles(Drawing(rings=9), ()), count_circles(Drawing(rings=9), ())), ((), (), 9))
        self.assertEqual(count_circles(Drawing(curls(9), rings=9), (0,) * 9), 27)

    def test_pure_circles(self):
        for drawing in ALL:
            told = tuple(count_circles(drawing, (way,) * len(drawing)) for way in (0, 1))
            self.assertEqual(pure_circles(drawing), told)
            self.assertIs(type(pure_circles(drawing)), tuple)
        self.assertEqual((pure_circles(Drawing(rings=4)), pure_circles(TWO_PIECES), pure_circles(NINE)),
                         ((4, 4), (5, 4), (9, 2)))

    def test_neighbours(self):
        for drawing in SHORT:
            for smoothing in all_smoothings(drawing):
                for at in range(len(drawing)):
                    other = smoothing[:at] + (1 - smoothing[at],) + smoothing[at + 1:]
                    self.assertEqual(abs(count_circles(drawing, smoothing) - count_circles(drawing, other)), 1)

    def test_refused(self):
        for drawing in (RING, CURL, KNOT, TWO_PIECES):
            right = (0,) * len(drawing)
            wrongs = [value for value in WRONG if value != right or not isinstance(value, tuple)] + [
                right + (0,), list(right), right[:-1] + (2,), right[:-1] + (True,), right[:-1] + (-1,),
                right[:-2] + (None,), 0, "0"]
            for function in (circles, count_circles):
                check_arguments(self, function, ([drawing], NO_DRAWINGS, InvalidDrawing), ([right], wrongs, InvalidSmoothing))


class Brackets(unittest.TestCase):
    def test_sums_over_all_smoothings(self):
        for drawing in ALL:
            self.assertIs(type(bracket(drawing)), Row)
            self.assertEqual(bracket(drawing).terms, plain_bracket(drawing.crossings, drawing.rings))
        for many in range(1, 10):
            self.assertEqual(bracket(Drawing(rings=many)).terms, circles_to(many - 1))
            self.assertEqual(bracket(Drawing(curls(1), rings=many)).terms, times({3: -1}, circles_to(many)))

    def test_sums_of_large_drawings(self):
        parted = [apart(one, other) for one in GROWN[:3] for other in GROWN[7:10] if len(one) + len(other) <= 9]
        for at, drawing in enumerate(GROWN + LARGE + parted):
            for rings in (0, 1 + at % 9):
                told = plain_bracket(drawing.crossings, rings)
                self.assertEqual(bracket(Drawing(drawing.crossings, rings=rings)).terms, told)

    def test_other_orders_of_crossings(self):
        chance = Random(0)
        for drawing in LARGE + [NINE, Drawing(curls(9), rings=9), Drawing(twisted(8))]:
            for _ in range(20):
                crossings = chance.sample(drawing.crossings, len(drawing))
                self.assertEqual(bracket(Drawing(tuple(crossings), rings=drawing.rings)), bracket(drawing))
            self.assertEqual(bracket(Drawing(shuffled(drawing.crossings), rings=drawing.rings)), bracket(drawing))

    def test_mirrors_and_views_from_behind(self):
        for drawing in ALL:
            self.assertEqual(bracket(drawing.mirror), bracket(drawing).turned)
            self.assertEqual(bracket(drawing.behind), bracket(drawing))
            self.assertEqual(bracket(drawing.numbered), bracket(drawing))
            self.assertEqual(len({exponent % 4 for exponent, _ in bracket(drawing)}), 1)

    def test_one_crossing_smoothed(self):
        for drawing in SHORT:
            if drawing.rings <= 7:
                for at in range(len(drawing)):
                    zero, one = [bracket(smoothed(drawing, at, way)) for way in (0, 1)]
                    self.assertEqual(bracket(drawing), zero.shifted(1) + one.shifted(-1))

    def test_drawings_put_together(self):
        for one in (RING, CURL, KNOT, EIGHT, TWO_PIECES):
            for other in (RING, LINKED, KNOT, CURL):
                self.assertEqual(bracket(apart(one, other)), bracket(one) * bracket(other) * CIRCLE)
                if len(one) and len(other):
                    self.assertEqual(bracket(summed(one, 1, other, 0)), bracket(one) * bracket(other))

    def test_nothing_is_changed(self):
        crossings = EIGHT.crossings
        for call in (lambda: bracket(EIGHT), lambda: smoothed(EIGHT, 1, 0), lambda: circles(EIGHT, (0, 1, 0, 1)),
                     lambda: pure_circles(EIGHT)):
            self.assertEqual(call(), call())
        self.assertEqual((EIGHT.crossings, EIGHT.rings), (crossings, 0))


class Smoothed(unittest.TestCase):
    def test_drawings_with_a_crossing_smoothed(self):
        more = []
        for drawing in ALL:
            for at in range(len(drawing)):
                for way in (0, 1):
                    crossings, rings = plain_smoothed(drawing, at, way)
                    if rings > 9:
                        check_too_many(self, drawing, at, way)
                        continue
                    behind = smoothed(drawing, at, way)
                    self.assertIs(type(behind), Drawing)
                    self.assertEqual((behind.crossings, behind.rings), (crossings, rings))
                    self.assertEqual(behind.numbered, behind)
                    more.append(rings - drawing.rings)
        self.assertEqual(sorted(set(more)), [0, 1, 2])

    def test_one_ring_or_two_more(self):
        for rings in range(10):
            drawing = Drawing(CURL.crossings, rings=rings)
            for way, more in ((0, 2), (1, 1)):
                for some, turned in ((drawing, way), (drawing.mirror, 1 - way)):
                    if rings + more > 9:
                        check_too_many(self, some, 0, turned)
                    else:
                        self.assertEqual(smoothed(some, 0, turned), Drawing(rings=rings + more))
        linked = Drawing(LINKED.crossings, rings=9)
        self.assertEqual([smoothed(linked, at, way).rings for at in (0, 1) for way in (0, 1)], [9] * 4)
        self.assertEqual(smoothed(Drawing(curls(9), rings=8), 8, 1).rings, 9)
        check_too_many(self, Drawing(curls(9), rings=9), 8, 1)
        self.assertEqual(len(smoothed(Drawing(twisted(9), rings=9), 4, 0)), 8)

    def test_refused(self):
        ways = [0, 1]
        wrongs = [2, 3] + [value for value in WRONG]
        for drawing in (KNOT, Drawing(curls(3), rings=9)):
            check_arguments(self, smoothed, ([drawing], NO_DRAWINGS, InvalidDrawing), ([0], wrong_indices(3), InvalidNumber),
                            (ways, wrongs, InvalidNumber))
        for value in [0] + WRONG:
            check_refused(self, InvalidNumber, smoothed, RING, value, 0, kept=value)
            check_refused(self, InvalidNumber, smoothed, RING, value, value, kept=value)
        with self.assertRaises(TypeError):
            smoothed(KNOT, 0, way=0, other=1)


def check_too_many(case, drawing, at, way):
    with case.assertRaises(TooMany) as caught:
        smoothed(drawing, at, way)
    case.assertEqual(caught.exception.limit, 9)


if __name__ == "__main__":
    unittest.main()
