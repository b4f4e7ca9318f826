"""Pairings of crossings and rims: stage 15, [0.18], and [0.1] to [0.7] as far as they reach it."""

import inspect
import unittest

from crosswebs.draw.drawings import Drawing
from crosswebs.draw.joins import apart, summed
from crosswebs.errors import InvalidDrawing, InvalidNumber, InvalidOperation, InvalidPairing, InvalidTree
from crosswebs.pairs import pairings
from crosswebs.pairs.pairings import (clock_turns, each_pairing, highest, is_pairing, is_way_up, lowest, pairing_of, tree_of,
                                      turned, way_up)
from crosswebs.webs.shades import dark_of, light_of
from crosswebs.webs.webs import count_trees
from tests.grown import GROWN, LARGE
from tests.plain_pairs import dark_corners, plain_pairings, turns_between
from tests.plain_webs import trees_of
from tests.refusals import (broken, check_arguments, check_generator, check_judged, check_plain, check_refused, wrong_but,
                            wrong_indices)
from tests.samples import (CURL, EIGHT, KNOT, LINKED, NINE, REACHED, RING, SAMPLES, SMALL, TWO_PIECES, WRONG, curls, shuffled,
                           twisted)

NO_DRAWINGS = wrong_but(Drawing)
ONE_PIECE = [drawing for drawing in SAMPLES + REACHED + GROWN[:14] + SMALL[::12] if drawing.is_one_piece]
SHORT = [drawing for drawing in ONE_PIECE if len(drawing) < 6]
SEVERAL = [RING, TWO_PIECES, apart(CURL, CURL), Drawing(CURL.crossings, rings=1), Drawing(curls(9), rings=9), Drawing(rings=9)]


def strands_of(drawing):
    return range(2 * len(drawing))


class Examples(unittest.TestCase):
    def test_pairings(self):
        told = [list(each_pairing(KNOT, 0)), [tree_of(KNOT, 0, one) for one in each_pairing(KNOT, 0)], pairing_of(KNOT, 0, (0,)),
                list(each_pairing(CURL, 1))]
        self.assertEqual(told, [[(1, 2, 1), (1, 3, 2), (2, 3, 3)], [(1,), (2,), (0,)], (2, 3, 3), [(0,)]])

    def test_turns(self):
        told = [lowest(KNOT, 0), clock_turns(KNOT, 0, (2, 3, 3)), turned(KNOT, 0, (2, 3, 3), (0, 2)), highest(KNOT, 0),
                way_up(KNOT, 0, (1, 2, 1))]
        self.assertEqual(told, [(2, 3, 3), ((0, 2),), (1, 3, 2), (1, 2, 1), ((0, 2), (1, 2))])
        told = [len(list(each_pairing(EIGHT, 5))), lowest(EIGHT, 0), highest(EIGHT, 0), len(way_up(EIGHT, 0, (1, 0, 2, 1))),
                is_way_up(EIGHT, 0, (2, 0, 3, 3), ((2, 3), (1, 3)))]
        self.assertEqual(told, [5, (2, 1, 0, 1), (1, 0, 2, 1), 4, True])
        told = [is_pairing(LINKED, 0, (1, 2)), is_pairing(LINKED, 0, (0, 1)), is_pairing(LINKED, 2, (0, 1)), lowest(LINKED, 0),
                is_way_up(LINKED, 0, (1, 2), ((0, 1),))]
        self.assertEqual(told, [True, False, True, (2, 3), True])


class Pairings(unittest.TestCase):
    def test_all_in_order(self):
        for drawing in SHORT:
            for strand in strands_of(drawing):
                told = list(each_pairing(drawing, strand))
                self.assertEqual(told, plain_pairings(drawing.crossings, strand))
                check_plain(self, tuple(told))
        for drawing in (Drawing(twisted(6)), REACHED[-5]):
            if drawing.is_one_piece and len(drawing) < 8:
                self.assertEqual(list(each_pairing(drawing, 3)), plain_pairings(drawing.crossings, 3))

    def test_as_many_as_joining_trees(self):
        for drawing in ONE_PIECE:
            many = count_trees(dark_of(drawing).web)
            self.assertEqual(count_trees(light_of(drawing).web), many)
            for strand in strands_of(drawing):
                told = list(each_pairing(drawing, strand))
                self.assertEqual((len(told), told), (many, sorted(set(told))))
        self.assertEqual([len(list(each_pairing(NINE, strand))) for strand in range(18)], [9] * 18)

    def test_each_tree_comes_from_one(self):
        for drawing in ONE_PIECE:
            dark, web = dark_corners(drawing.crossings), dark_of(drawing).web
            strands = strands_of(drawing) if len(drawing) < 6 else (0, 7)
            for strand in strands:
                told = {}
                for pairing in each_pairing(drawing, strand):
                    tree = tree_of(drawing, strand, pairing)
                    check_plain(self, tree)
                    self.assertEqual(tree, tuple(at for at, p in enumerate(pairing) if (at, p) in dark))
                    self.assertEqual(pairing_of(drawing, strand, tree), pairing)
                    told[tree] = pairing
                    others = tuple(at for at in range(len(drawing)) if at not in tree)
                    self.assertIn(others, trees_of(light_of(drawing).web.many, light_of(drawing).web.ties))
                self.assertEqual(sorted(told), trees_of(web.many, web.ties))

    def test_values_that_are_pairings(self):
        for drawing in (CURL, LINKED, KNOT, EIGHT, REACHED[0], Drawing(shuffled(KNOT.crossings))):
            for strand in (0, len(drawing)):
                rights = plain_pairings(drawing.crossings, strand)
                many = len(drawing)
                check_judged(self, lambda value: is_pairing(drawing, strand, value), rights,
                             [(4,) * many, (-1,) * many, (0,) * (many + 1), (True,) * many, (False,) * many, [0] * many,
                              rights[0] + (0,), list(rights[0]), tuple(enumerate(rights[0]))])
        for strand in range(4):
            for value in [(a, b) for a in range(4) for b in range(4)]:
                self.assertIs(is_pairing(LINKED, strand, value), value in plain_pairings(LINKED.crossings, strand))

    def test_one_by_one(self):
        made = each_pairing(NINE, 0)
        self.assertEqual([next(made), next(made)], list(each_pairing(NINE, 0))[:2])

    def test_a_drawing_of_one_crossing(self):
        for drawing in [drawing for drawing in SMALL if len(drawing) == 1]:
            for strand in (0, 1):
                (told,) = each_pairing(drawing, strand)
                self.assertEqual((lowest(drawing, strand), highest(drawing, strand)), (told, told))
                self.assertEqual((clock_turns(drawing, strand, told), way_up(drawing, strand, told)), ((), ()))
                self.assertIs(is_way_up(drawing, strand, told, ()), True)


class Turns(unittest.TestCase):
    def test_clock_turns(self):
        for drawing in SHORT + [Drawing(twisted(7)), summed(KNOT, 0, KNOT, 3)] + LARGE[:6]:
            for strand in (0, 1, 2 * len(drawing) - 1):
                between = turns_between(list(each_pairing(drawing, strand)))
                for pairing, told in between.items():
                    turns = clock_turns(drawing, strand, pairing)
                    check_plain(self, turns)
                    self.assertEqual(turns, tuple(sorted(told)))
                    for turn, behind in told.items():
                        self.assertEqual(turned(drawing, strand, pairing, turn), behind)
                        rims = [[drawing.rim_at((at, made[at])) for at in turn] for made in (pairing, behind)]
                        self.assertEqual(rims[0], rims[1][::-1])

    def test_lowest_and_highest(self):
        for drawing in ONE_PIECE:
            for strand in strands_of(drawing) if len(drawing) < 6 else (0, 5):
                between = turns_between(list(each_pairing(drawing, strand)))
                reached = {behind for told in between.values() for behind in told.values()}
                self.assertEqual([pairing for pairing in between if pairing not in reached], [lowest(drawing, strand)])
                self.assertEqual([pairing for pairing, told in between.items() if not told], [highest(drawing, strand)])

    def test_ways_up(self):
        for drawing in ONE_PIECE:
            strand = len(drawing)
            between = turns_between(list(each_pairing(drawing, strand)))
            lengths = {lowest(drawing, strand): 0}
            waiting = [lowest(drawing, strand)]
            for pairing in waiting:
                for behind in between[pairing].values():
                    if behind not in lengths:
                        lengths[behind] = lengths[pairing] + 1
                        waiting.append(behind)
                    self.assertEqual(lengths[behind], lengths[pairing] + 1)
            self.assertEqual(len(lengths), len(between))
            for pairing in list(between)[::1 if len(between) < 12 else 5]:
                way = way_up(drawing, strand, pairing)
                check_plain(self, way)
                here = lowest(drawing, strand)
                for turn in way:
                    here = between[here][turn]
                self.assertEqual((here, len(way)), (pairing, lengths[pairing]))
                self.assertIs(is_way_up(drawing, strand, pairing, way), True)

    def test_all_ways_are_accepted(self):
        for drawing in (EIGHT, Drawing(twisted(5)), summed(KNOT, 0, KNOT, 3), REACHED[5]):
            strand = 2
            between = turns_between(list(each_pairing(drawing, strand)))
            ways = [((), lowest(drawing, strand))]
            for way, here in ways[:400]:
                ways += [(way + (turn,), behind) for turn, behind in between[here].items()]
            for way, here in ways[:400]:
                for pairing in list(between)[:9]:
                    self.assertIs(is_way_up(drawing, strand, pairing, way), pairing == here)
                self.assertIs(is_way_up(drawing, strand, here, way), True)

    def test_values_like_ways(self):
        for drawing, strand in ((KNOT, 0), (EIGHT, 0), (LINKED, 0)):
            for pairing in (lowest(drawing, strand), highest(drawing, strand)):
                way = way_up(drawing, strand, pairing)
                ways = [way] + ([way[::-1]] if is_way_up(drawing, strand, pairing, way[::-1]) else [])
                for value in list(broken(way)) + [way + way, way[1:], way + way[-1:], (0, 2), ((0, 2), None), (((0, 2),),)]:
                    if value not in ways or "True" in str(value) or "False" in str(value):
                        self.assertIs(is_way_up(drawing, strand, pairing, value), False, value)
                for value in WRONG:
                    self.assertIs(is_way_up(drawing, strand, pairing, value), False, value)
                    self.assertIs(is_way_up(drawing, strand, pairing, (value,)), False, value)
        self.assertIs(is_way_up(LINKED, 0, (1, 2), ((False, True),)), False)
        self.assertIs(is_way_up(LINKED, 0, (1, 2), ((1, 0),)), False)


class Refused(unittest.TestCase):
    def arguments(self, drawing, strand):
        return ([drawing], NO_DRAWINGS, InvalidDrawing), ([strand], wrong_indices(2 * len(drawing)), InvalidNumber)

    def wrong_pairings(self, drawing, strand):
        rights = plain_pairings(drawing.crossings, strand)
        return [value for value in WRONG + list(broken(rights[0])) + [rights[0] + (0,), list(rights[0])] if value not in rights
                or "True" in str(value) or "False" in str(value)]

    def test_wrong_arguments(self):
        drawing, strand = KNOT, 0
        first = self.arguments(drawing, strand)
        check_generator(self, each_pairing, *first)
        for function in (lowest, highest):
            check_arguments(self, function, *first)
        for value in ((1, 2, 1), None):
            check_arguments(self, lambda *told: is_pairing(*told, value), *first)
        rights, wrongs = plain_pairings(drawing.crossings, strand), self.wrong_pairings(drawing, strand)
        for function in (tree_of, clock_turns, way_up):
            check_arguments(self, function, *first, (rights, wrongs, InvalidPairing))
        for value in ((), None):
            check_arguments(self, lambda *told: is_way_up(*told, value), *first, (rights, wrongs, InvalidPairing))
        check_arguments(self, pairing_of, *first, ([(0,), (2,)], wrong_but(more=[(), (0, 1), (3,), (False,), [0], 0, (-1,)]), InvalidTree))
        turns = wrong_but(more=[(2, 0), (0, 1), (0,), (0, 2, 0), (False, 2), [0, 2], ((0, 2),), (0, 2.0)[:1], (0, 3)])
        check_arguments(self, turned, *first, ([(2, 3, 3)], wrongs, InvalidPairing), ([(0, 2)], turns, InvalidOperation))
        check_refused(self, InvalidOperation, turned, KNOT, 0, (1, 2, 1), (0, 2))
        check_refused(self, InvalidOperation, turned, LINKED, 0, (2, 3), (False, True))

    def test_drawings_that_are_not_in_one_piece(self):
        for drawing in SEVERAL:
            for strand in (0, None, True, 99):
                for function in (lowest, highest, lambda *told: next(each_pairing(*told))):
                    check_refused(self, InvalidOperation, function, drawing, strand)
                for function in (is_pairing, tree_of, pairing_of, clock_turns, way_up):
                    check_refused(self, InvalidOperation, function, drawing, strand, None)
                for function in (turned, is_way_up):
                    check_refused(self, InvalidOperation, function, drawing, strand, None, None)

    def test_strands(self):
        for drawing in (CURL, EIGHT):
            for value in wrong_indices(2 * len(drawing)):
                check_refused(self, InvalidNumber, lowest, drawing, value, kept=value)
                check_refused(self, InvalidNumber, is_pairing, drawing, value, None, kept=value)

    def test_defined_here(self):
        for function, told in ((each_pairing, "(drawing, strand)"), (is_pairing, "(drawing, strand, value)"),
                               (tree_of, "(drawing, strand, pairing)"), (pairing_of, "(drawing, strand, tree)"),
                               (clock_turns, "(drawing, strand, pairing)"), (turned, "(drawing, strand, pairing, turn)"),
                               (lowest, "(drawing, strand)"), (highest, "(drawing, strand)"),
                               (way_up, "(drawing, strand, pairing)"), (is_way_up, "(drawing, strand, pairing, value)")):
            self.assertEqual((function.__module__, str(inspect.signature(function))), (pairings.__name__, told))

    def test_nothing_is_changed(self):
        before = EIGHT.crossings
        self.assertEqual(list(each_pairing(EIGHT, 1)), list(each_pairing(EIGHT, 1)))
        self.assertEqual(way_up(EIGHT, 1, highest(EIGHT, 1)), way_up(EIGHT, 1, highest(EIGHT, 1)))
        self.assertEqual(EIGHT.crossings, before)


if __name__ == "__main__":
    unittest.main()
