"""Drawings put together, and matching ones: stage 4, and [3.4]."""

import inspect
import unittest

from crosswebs.draw import joins
from crosswebs.draw.drawings import Drawing
from crosswebs.draw.joins import apart, is_matching, matching, piece_at, summed
from crosswebs.errors import InvalidDrawing, InvalidNumber, InvalidOperation, TooMany
from tests.plain import all_matchings, joined_ends, renamed
from tests.refusals import check_arguments, check_judged, wrong_but, wrong_indices
from tests.samples import (CURL, EIGHT, KNOT, LINKED, NINE, REACHED, RING, SAMPLES, SMALL, TWO_PIECES, WOVEN, WRONG, curls,
                           shuffled, twisted)

NO_DRAWINGS = wrong_but(Drawing)
SOME = SMALL[::150] + [RING, CURL, LINKED, KNOT, EIGHT, TWO_PIECES, WOVEN] + REACHED[:4]


def exchanged(drawing, order, turns):
    """The same drawing with its crossings in another order and turned round, and with other numbers of strands."""
    rows = [drawing.crossings[at][turn:] + drawing.crossings[at][:turn] for at, turn in zip(order, turns)]
    last = 2 * len(drawing) - 1
    return Drawing(tuple(tuple(last - strand for strand in row) for row in rows), rings=drawing.rings)


class Examples(unittest.TestCase):
    def test_put_together(self):
        told = [apart(KNOT, CURL).crossings[3:], summed(KNOT, 0, CURL, 0).crossings,
                summed(CURL, 1, CURL, 0, crossed=True).crossings]
        self.assertEqual(told, [((6, 6, 7, 7),), ((0, 1, 2, 3), (4, 6, 3, 5), (1, 4, 5, 2), (0, 6, 7, 7)),
                                ((0, 0, 1, 2), (2, 1, 3, 3))])

    def test_pieces(self):
        both = apart(CURL, apart(RING, LINKED))
        told = [both.pieces, both.rings, both.many_strings, piece_at(both, 1) == LINKED, piece_at(both, 0) == CURL,
                summed(LINKED, 0, LINKED, 0).many_strings]
        self.assertEqual(told, [((0,), (1, 2)), 1, 4, True, True, 3])

    def test_matchings(self):
        told = [matching(CURL, CURL) in (((0, 0),), ((0, 2),)), matching(KNOT, KNOT.mirror),
                matching(LINKED, LINKED.mirror.mirror) in (((0, 2), (1, 2)), ((1, 2), (0, 2)), ((0, 0), (1, 0)),
                                                           ((1, 0), (0, 0)))]
        self.assertEqual(told, [True, None, True])
        told = [is_matching(CURL, CURL, ((0, 2),)), is_matching(CURL, CURL, ((0, 1),)), matching(CURL, CURL.mirror),
                matching(EIGHT, EIGHT.mirror) is None, matching(RING, RING), matching(RING, CURL)]
        self.assertEqual(told, [True, False, None, False, (), None])


class Apart(unittest.TestCase):
    def test_crossings_rings_and_pieces(self):
        for one in SOME:
            for other in SOME:
                if len(one) + len(other) > 9 or one.rings + other.rings > 9:
                    continue
                both = apart(one, other)
                self.assertIs(type(both), Drawing)
                self.assertEqual(both.crossings[:len(one)], one.crossings)
                self.assertEqual(both.crossings[len(one):], tuple(
                    tuple(strand + 2 * len(one) for strand in crossing) for crossing in other.crossings))
                self.assertEqual(both.rings, one.rings + other.rings)
                self.assertEqual(both.many_strings, one.many_strings + other.many_strings)
                self.assertEqual(len(both.pieces), len(one.pieces) + len(other.pieces))

    def test_nine_and_ten(self):
        self.assertEqual(apart(Drawing(twisted(4)), Drawing(twisted(5))).pieces, ((0, 1, 2, 3), (4, 5, 6, 7, 8)))
        self.assertEqual(apart(Drawing(rings=4), Drawing(rings=5)), Drawing(rings=9))
        self.assertEqual(apart(NINE, Drawing(rings=9)), Drawing(NINE.crossings, rings=9))
        for one, other in ((NINE, CURL), (CURL, NINE), (Drawing(twisted(5)),) * 2, (Drawing(rings=9), RING),
                           (RING, Drawing(rings=9)), (Drawing(rings=5),) * 2, (Drawing(curls(9), rings=9),) * 2):
            self.check_too_many(apart, one, other)

    def check_too_many(self, call, *values):
        with self.assertRaises(TooMany) as caught:
            call(*values)
        self.assertEqual(caught.exception.limit, 9)

    def test_refused(self):
        check_arguments(self, apart, ([KNOT, RING, NINE], NO_DRAWINGS, InvalidDrawing), ([KNOT], NO_DRAWINGS, InvalidDrawing))


class Summed(unittest.TestCase):
    def test_which_ends_are_joined(self):
        for one in SOME:
            for other in SOME:
                if len(one) + len(other) > 9 or one.rings + other.rings > 9:
                    continue
                step = 1 if len(one) + len(other) <= 4 else 3
                for s in range(0, 2 * len(one), step):
                    for t in range(0, 2 * len(other), step):
                        for crossed in (False, True):
                            self.check_sum(one, s, other, t, crossed)

    def check_sum(self, one, s, other, t, crossed):
        both = summed(one, s, other, t, crossed=crossed)
        (a, b), (c, d) = one.strands[s], [(i + len(one), p) for i, p in other.strands[t]]
        pairs = joined_ends(one.crossings)
        pairs += [tuple((i + len(one), p) for i, p in pair) for pair in joined_ends(other.crossings)]
        pairs = [pair for pair in pairs if pair not in ((a, b), (c, d))]
        pairs += [(a, d), (b, c)] if crossed else [(a, c), (b, d)]
        self.assertEqual({frozenset(pair) for pair in joined_ends(both.crossings)}, {frozenset(pair) for pair in pairs})
        self.assertEqual(both.crossings[a[0]][a[1]], s)
        self.assertEqual(both.crossings[b[0]][b[1]], t + 2 * len(one))
        kept = [(i, p) for i in range(len(both)) for p in range(4) if (i, p) not in (a, b, c, d)]
        beside = one.crossings + tuple(tuple(strand + 2 * len(one) for strand in row) for row in other.crossings)
        self.assertEqual([both.crossings[i][p] for i, p in kept], [beside[i][p] for i, p in kept])
        self.assertEqual(both.rings, one.rings + other.rings)
        self.assertEqual(both.many_strings, one.many_strings + other.many_strings - 1)
        self.assertEqual(len(both.pieces), len(one.pieces) + len(other.pieces) - 1)

    def test_not_crossed_by_default(self):
        self.assertEqual(summed(KNOT, 1, EIGHT, 2), summed(KNOT, 1, EIGHT, 2, crossed=False))
        self.assertNotEqual(summed(KNOT, 1, EIGHT, 2), summed(KNOT, 1, EIGHT, 2, crossed=True))
        with self.assertRaises(TypeError):
            summed(KNOT, 1, EIGHT, 2, True)
        self.assertEqual(str(inspect.signature(summed)), "(one, strand, other, other_strand, *, crossed=False)")

    def test_too_many(self):
        check = Apart.check_too_many
        for one, other in ((NINE, CURL), (CURL, NINE), (Drawing(twisted(5)),) * 2, (Drawing(CURL.crossings, rings=5),) * 2):
            for crossed in (False, True):
                check(self, lambda: summed(one, 0, other, 1, crossed=crossed))
        self.assertEqual(len(summed(Drawing(twisted(5)), 0, Drawing(twisted(4)), 0)), 9)
        self.assertEqual(summed(Drawing(CURL.crossings, rings=4), 0, Drawing(CURL.crossings, rings=5), 0).rings, 9)

    def test_refused(self):
        wrongs = [value for value in WRONG if not isinstance(value, bool)] + [0, 1, 2]

        def call(one, strand, other, other_strand, crossed):
            return summed(one, strand, other, other_strand, crossed=crossed)

        check_arguments(
            self, call, ([KNOT, NINE], NO_DRAWINGS, InvalidDrawing), ([0, 5], wrong_indices(6), InvalidNumber),
            ([EIGHT, NINE], NO_DRAWINGS, InvalidDrawing), ([0, 7], wrong_indices(18), InvalidNumber),
            ([True, False], wrongs, InvalidOperation))
        check_arguments(self, lambda *told: summed(NINE, 17, *told), ([NINE], NO_DRAWINGS, InvalidDrawing),
                        ([17], wrong_indices(18), InvalidNumber))
        check_arguments(self, lambda *told: summed(KNOT, 0, CURL, *told), ([0, 1], wrong_indices(2), InvalidNumber))

    def test_no_strand_without_crossings(self):
        for value in [0, 1] + WRONG:
            check_arguments(self, lambda strand: summed(RING, strand, KNOT, 0), ([], [value], InvalidNumber))
            check_arguments(self, lambda strand: summed(KNOT, 0, Drawing(rings=9), strand), ([], [value], InvalidNumber))


class Pieces(unittest.TestCase):
    def test_each_piece_alone(self):
        for drawing in SAMPLES + SMALL[::7] + REACHED:
            for index, piece in enumerate(drawing.pieces):
                alone = piece_at(drawing, index)
                self.assertEqual(alone.crossings, renamed([drawing.crossings[at] for at in piece]))
                self.assertEqual((alone.rings, alone.is_one_piece, alone.numbered), (0, True, alone))
        self.assertEqual(piece_at(WOVEN, 0).crossings, ((0, 1, 2, 3), (1, 0, 3, 2)))
        self.assertEqual(piece_at(Drawing(shuffled(EIGHT.crossings), rings=3), 0), Drawing(shuffled(EIGHT.crossings)).numbered)

    def test_pieces_apart_again(self):
        for drawing in SAMPLES + SMALL[::11] + REACHED:
            parts = [piece_at(drawing, index) for index in range(len(drawing.pieces))]
            if drawing.rings:
                parts.append(Drawing(rings=drawing.rings))
            both = parts[0]
            for part in parts[1:]:
                both = apart(both, part)
            self.assertTrue(is_matching(both, drawing, matching(both, drawing)))

    def test_refused(self):
        check_arguments(self, piece_at, ([TWO_PIECES], NO_DRAWINGS, InvalidDrawing),
                        ([0, 1], wrong_indices(2), InvalidNumber))
        check_arguments(self, lambda index: piece_at(RING, index), ([], [0] + wrong_indices(0), InvalidNumber))


class Matchings(unittest.TestCase):
    def test_all_matchings_of_small_drawings(self):
        some = [drawing for drawing in SOME if len(drawing) <= 3]
        for one in some:
            for other in some + [one.mirror.mirror, one.mirror, one.behind, Drawing(shuffled(one.crossings), rings=one.rings)]:
                told = []
                if len(one) == len(other) and one.rings == other.rings:
                    told = list(all_matchings(one.crossings, other.crossings))
                found = matching(one, other)
                self.assertTrue(found in told if told else found is None)
                order, many = [0, 2, 1, 3], len(one)
                for value in told:
                    self.assertIs(is_matching(one, other, value), True)
                    turned = tuple((j, turn ^ 2) for j, turn in value)
                    moved = tuple((order[j] if many > 2 else j, turn) for j, turn in value)
                    for near in (turned, moved, value[::-1], tuple((j, 0) for j, _ in value)):
                        self.assertIs(is_matching(one, other, near), near in told)

    def test_the_same_but_for_numbers(self):
        for drawing in SAMPLES + REACHED:
            many = len(drawing)
            order = sorted(range(many), key=lambda at: (at * 5 + 3) % 11)
            for turns in ([0] * many, [2] * many, [2 * (at % 2) for at in range(many)]):
                other = exchanged(drawing, order, turns)
                for one, two in ((drawing, other), (other, drawing)):
                    found = matching(one, two)
                    self.assertIs(is_matching(one, two, found), True)
            right = tuple((order.index(at), (4 - turns[order.index(at)]) % 4) for at in range(many))
            self.assertIs(is_matching(drawing, other, right), True)
            self.assertIs(is_matching(drawing, drawing, tuple((at, 0) for at in range(many))), True)
            self.assertIs(is_matching(drawing, drawing, tuple((at, 2) for at in range(many))), many == 0 or all(
                drawing.partner((k, (r + 2) % 4)) == (i, (p + 2) % 4) for (i, p), (k, r) in drawing.strands))

    def test_mirrors_and_views_from_behind(self):
        for drawing in SAMPLES + REACHED + SMALL[::5]:
            twice = drawing.mirror.mirror
            self.assertIs(is_matching(drawing, twice, matching(drawing, twice)), True)
            self.assertIs(is_matching(drawing, twice, tuple((at, 2) for at in range(len(drawing)))), True)
            self.assertEqual(drawing.behind.behind, drawing)
            self.assertEqual(matching(drawing, drawing.mirror) is None, matching(drawing.mirror, drawing) is None)
            self.assertEqual(matching(drawing, drawing.behind) is None, matching(drawing.behind, drawing) is None)
        self.assertIsNotNone(matching(EIGHT, EIGHT.mirror))
        self.assertIsNone(matching(KNOT, KNOT.mirror))
        self.assertIsNotNone(matching(Drawing(twisted(9)), Drawing(shuffled(twisted(9)))))
        self.assertIsNone(matching(Drawing(twisted(9)), Drawing(twisted(9)).mirror))

    def test_put_together_the_other_way_round(self):
        for one in SOME:
            for other in SOME:
                if len(one) + len(other) > 6 or one.rings + other.rings > 9:
                    continue
                self.check_match(apart(one, other), apart(other, one))
                for s in range(0, 2 * len(one), 3):
                    for t in range(0, 2 * len(other), 2):
                        for crossed in (False, True):
                            self.check_match(summed(one, s, other, t, crossed=crossed),
                                             summed(other, t, one, s, crossed=crossed))

    def check_match(self, one, other):
        found = matching(one, other)
        self.assertIs(type(found), tuple)
        self.assertTrue(all(type(pair) is tuple for pair in found))
        self.assertIs(is_matching(one, other, found), True)

    def test_other_numbers_of_crossings_or_rings(self):
        for one in SAMPLES:
            for other in SAMPLES:
                if len(one) != len(other) or one.rings != other.rings or len(one.pieces) != len(other.pieces):
                    self.assertIsNone(matching(one, other))
                    for value in ((), tuple((at, 0) for at in range(len(one))), tuple((at, 0) for at in range(len(other)))):
                        self.assertIs(is_matching(one, other, value), False)
        self.assertEqual(matching(Drawing(rings=9), Drawing(rings=9)), ())
        self.assertIsNone(matching(Drawing(CURL.crossings, rings=1), CURL))
        self.assertIsNone(matching(Drawing(rings=8), Drawing(rings=9)))

    def test_pieces_can_be_exchanged(self):
        knots, mirrored = apart(KNOT, apart(KNOT.mirror, KNOT)), apart(KNOT.mirror, apart(KNOT, KNOT))
        self.check_match(knots, mirrored)
        self.check_match(mirrored, knots)
        self.assertIsNone(matching(knots, apart(KNOT.mirror, apart(KNOT.mirror, KNOT))))
        self.assertIsNone(matching(apart(CURL, LINKED), Drawing(curls(3))))
        # A piece that goes twice round another one has equal neighbours everywhere, but does not match it.
        self.assertIsNone(matching(Drawing(twisted(8)), apart(Drawing(twisted(4)), Drawing(twisted(4)))))
        self.assertIsNone(matching(apart(Drawing(twisted(4)), Drawing(twisted(4))), Drawing(twisted(8))))
        self.assertIsNone(matching(apart(LINKED, Drawing(twisted(6))), apart(Drawing(twisted(4)), Drawing(twisted(4)))))

    def test_values_that_are_no_matchings(self):
        check_judged(self, lambda value: is_matching(CURL, CURL, value), [((0, 0),), ((0, 2),)],
                     [((0, 1),), ((0, 3),), ((0, 4),), ((1, 0),), ((0, 0), (0, 0))])
        check_judged(self, lambda value: is_matching(RING, RING, value), [()])
        for one in (LINKED, KNOT, EIGHT, TWO_PIECES, WOVEN, REACHED[0]):
            rights = list(all_matchings(one.crossings, one.crossings))
            check_judged(self, lambda value: is_matching(one, one, value), rights)

    def test_refused(self):
        for value in (((0, 0),), None):
            for function in (matching, lambda one, other: is_matching(one, other, value)):
                check_arguments(self, function, ([CURL, RING], NO_DRAWINGS, InvalidDrawing),
                                ([CURL], NO_DRAWINGS, InvalidDrawing))

    def test_defined_here(self):
        for function, told in ((apart, "(one, other)"), (piece_at, "(drawing, index)"), (matching, "(one, other)"),
                               (is_matching, "(one, other, value)")):
            self.assertEqual((function.__module__, str(inspect.signature(function))), (joins.__name__, told))


if __name__ == "__main__":
    unittest.main()
