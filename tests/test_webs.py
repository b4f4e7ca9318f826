"""Webs: stage 7, and [0.1] to [0.5] as far as they reach it."""

import inspect
import unittest

from crosswebs.errors import InvalidNumber, InvalidOperation, InvalidTree, InvalidWeb, ParseError
from crosswebs.webs import webs
from crosswebs.webs.webs import (MAX_PLACES, MAX_TIES, Web, count_trees, cut_closed, each_tree, is_tree, ring_closed,
                                 signed_count)
from tests.plain_webs import (blocks_of, bridges_of, cut_with, lots_of, product_of_signs, ring_with, rings_of, subsets,
                              trees_of)
from tests.refusals import (broken, check_arguments, check_equality, check_generator, check_interface, check_judged,
                            check_plain, check_refused, wrong_but, wrong_indices)
from tests.samples import CROWDED, MIXED, PATH, TINY_WEBS, WEBS, WRONG, pattern, signed

NO_WEBS = wrong_but(Web)
ALL = WEBS + TINY_WEBS
PARTED = Web(3, ((0, 2, -1),))


class Examples(unittest.TestCase):
    def test_told(self):
        told = [MIXED.lines[:3], MIXED.lots, MIXED.bridges, MIXED.loops, MIXED.blocks, str(MIXED)]
        self.assertEqual(told, [("places 3", "tie 0 1 +", "tie 1 2 +"), ((0, 1, 2),), (), (3,), ((0, 1, 2, 4), (3,)),
                                "web of 3 places, 5 ties"])

    def test_trees(self):
        told = [list(each_tree(MIXED)), count_trees(MIXED), signed_count(MIXED), is_tree(MIXED, (1, 4)),
                count_trees(MIXED.struck(2)), count_trees(MIXED.drawn_together(2))]
        self.assertEqual(told, [[(0, 1), (0, 2), (0, 4), (1, 2), (2, 4)], 5, -1, False, 2, 3])

    def test_cuts_and_rings(self):
        told = [MIXED.struck(0).bridges, MIXED.drawn_together(2).ties, cut_closed(MIXED, (0, 1), 0),
                cut_closed(MIXED, (0, 1), 1), ring_closed(MIXED, (0, 1), 2), ring_closed(MIXED, (0, 1), 3),
                ring_closed(MIXED, (0, 1), 4)]
        self.assertEqual(told, [(1,), ((0, 1, 1), (1, 0, 1), (1, 1, -1), (0, 1, 1)), (0, 2), (1, 2, 4), (0, 1, 2), (3,),
                                (1, 4)])

    def test_parted(self):
        parted = Web.from_lines("places 3", "tie 0 2 -")
        told = [parted.ties, parted.lots, parted.hangs, parted.bridges, count_trees(parted), Web(1, ()).hangs,
                list(each_tree(Web(1, ())))]
        self.assertEqual(told, [((0, 2, -1),), ((0, 2), (1,)), False, (0,), 0, True, [()]])


class Made(unittest.TestCase):
    def refuse(self, many, ties):
        check_refused(self, InvalidWeb, Web, many, ties)

    def test_constants(self):
        self.assertEqual((MAX_PLACES, MAX_TIES), (10, 9))

    def test_what_is_kept(self):
        for web in ALL:
            again = Web(web.many, web.ties)
            self.assertEqual((again.many, again.ties), (web.many, web.ties))
            check_plain(self, (web.many, web.ties, web.lines, web.signs, web.lots, web.hangs, web.bridges, web.loops,
                               web.blocks))

    def test_limits(self):
        for many in (0, 11, -1, 10 ** 59, 10 ** 60, 10 ** 99):
            self.refuse(many, ())
            self.refuse(many, ((0, 0, 1),))
        self.assertEqual((Web(10, ()).many, len(Web(1, ((0, 0, 1),) * 9))), (10, 9))
        self.refuse(1, ((0, 0, 1),) * 10)
        self.refuse(2, ((0, 1, -1),) * 10)
        self.refuse(11, ((0, 0, 1),) * 10)
        for many in (1, 2, 10):
            for tie in ((many, 0, 1), (0, many, 1), (-1, 0, 1), (0, -1, 1), (0, 0, 0), (0, 0, 2), (0, 0, -2), (many, many, -1),
                        (0, 0, 10 ** 60), (10 ** 60, 0, 1), (0, 10 ** 60, 1), (0, 0), (0, 0, 1, 1), (0,), (), (0, 0, 1, 0)):
                self.refuse(many, (tie,))
                self.refuse(many, ((0, 0, -1), tie))
                self.refuse(many, (tie, (many - 1, 0, 1)))

    def test_true_is_not_1(self):
        self.refuse(True, ())
        for tie in ((0, 0, True), (True, 0, 1), (0, True, 1), (False, 0, 1), (0, False, 1), (0, 0, False)):
            self.refuse(2, (tie,))

    def test_wrong_values(self):
        for value in WRONG:
            if value != 10 or isinstance(value, bool):
                self.refuse(value, ())
                self.refuse(value, ((0, 0, 1),))
            for many in (1, 10, value):
                self.refuse(many, value)
                self.refuse(many, (value,))
                self.refuse(many, ((0, 0, 1), value))
                self.refuse(many, ((value, 0, 1),))
                self.refuse(many, ((0, value, 1),))
                if type(value) is not int or value != -1:
                    self.refuse(many, ((0, 0, value),))
            self.refuse(1, [(0, 0, 1)])
            self.refuse(1, ([0, 0, 1],))

    def test_values_like_ties(self):
        for web in WEBS[:6]:
            for ties in broken(web.ties):
                if not (type(ties) is tuple and all(tie in web.ties for tie in ties) and "True" not in str(ties)
                        and "False" not in str(ties)):
                    self.refuse(web.many, ties)

    def test_interface(self):
        check_interface(
            self, MIXED, ("many", "ties", "lines", "signs", "lots", "hangs", "bridges", "loops", "blocks"),
            ("__init__", "struck", "drawn_together", "with_signs", "__len__", "__iter__", "__eq__", "__str__"), ("from_lines",))
        for made, told in ((Web, "(many, ties)"), (Web.from_lines, "(*lines)"), (MIXED.struck, "(tie)"), (each_tree, "(web)"),
                           (MIXED.drawn_together, "(tie)"), (MIXED.with_signs, "(signs)"), (is_tree, "(web, value)"),
                           (count_trees, "(web)"), (signed_count, "(web)"), (cut_closed, "(web, tree, tie)"),
                           (ring_closed, "(web, tree, tie)")):
            self.assertEqual(str(inspect.signature(made)), told)
        for made in (Web, each_tree, is_tree, count_trees, signed_count, cut_closed, ring_closed):
            self.assertEqual(made.__module__, webs.__name__)


class Lines(unittest.TestCase):
    def refuse(self, index, *lines):
        with self.assertRaises(ParseError) as caught:
            Web.from_lines(*lines)
        self.assertIs(type(caught.exception.number), int)
        self.assertEqual(caught.exception.number, index)

    def test_lines_lead_back(self):
        for web in ALL:
            self.assertEqual(web.lines[0], f"places {web.many}")
            self.assertEqual(web.lines[1:], tuple(f"tie {a} {b} {'+' if sign == 1 else '-'}" for a, b, sign in web.ties))
            self.assertEqual(Web.from_lines(*web.lines), web)
            self.assertIs(type(Web.from_lines(*web.lines)), Web)
        self.assertEqual(Web.from_lines("places 1"), Web(1, ()))
        self.assertEqual(MIXED.from_lines("places 2", "tie 1 1 -").ties, ((1, 1, -1),))

    def test_no_lines(self):
        self.refuse(0)

    def test_what_is_no_line(self):
        first = ("", "places", "places ", "places 03", "places 003", "places 100", "places -1", "places +1", "places  3",
                 " places 3",
                 "places 3 ", "places 3\n", "places\n3", "Places 3", "place 3", "places x", "places 1_0", "places 3 3",
                 "3", "places 3.0",
                 "tie 0 0 +", "ring", "places \u0663", "places\t3")
        later = ("", "tie", "tie 0 0", "tie 0 0 ", "tie 0 0 1", "tie 0 0 -1", "tie 0 0 *", "tie 0 0 + ", " tie 0 0 +",
                 "tie  0 0 +",
                 "tie 0  0 +", "tie 0 0  +", "tie 00 0 +", "tie 0 00 -", "tie 0 01 +", "tie 01 0 +", "tie 0 100 +",
                 "tie 100 0 +",
                 "tie -1 0 +", "tie 0 -1 +", "tie 0 0 +\n", "tie\n0 0 +", "Tie 0 0 +", "ties 0 0 +", "tie 0 0 + +",
                 "tie 0 0 +-", "tie 0 0+",
                 "places 3", "0 0 +", "tie 0 x +", "tie x 0 +", "tie 0 0 plus", "tie 0 0 ++", "tie 0 0 0 +", "cross 0 0 1 1")
        for line in first:
            self.refuse(0, line)
            self.refuse(0, line, "tie 0 0 +")
            self.refuse(0, line, line)
        for line in later:
            self.refuse(1, "places 3", line)
            self.refuse(2, "places 3", "tie 0 1 -", line)
            self.refuse(2, "places 3", "tie 0 1 -", line, line, "tie 0 1 -")

    def test_values_of_other_kinds(self):
        for value in WRONG + [("places 3",), ["places 3"], 3, "tie 0 0 +", ("tie 0 0 +",)]:
            self.refuse(0, value)
            self.refuse(0, value, "tie 0 0 +", value)
            if value != "tie 0 0 +":
                self.refuse(1, "places 3", value)
                self.refuse(3, "places 3", "tie 0 0 +", "tie 0 0 -", value, value)

    def test_lines_of_no_web(self):
        for lines in (("places 0",), ("places 11",), ("places 99",), ("places 1", "tie 0 1 +"), ("places 3", "tie 3 0 -"),
                      ("places 10", "tie 9 10 +"), ("places 1",) + ("tie 0 0 +",) * 10, ("places 0", "tie 0 0 +")):
            check_refused(self, InvalidWeb, Web.from_lines, *lines)
            if len(lines) < 10:
                self.refuse(len(lines), *lines, "tie 0 0")
        self.assertEqual(len(Web.from_lines("places 1", *["tie 0 0 +"] * 9)), 9)
        self.assertEqual(Web.from_lines("places 10", "tie 9 0 +").ties, ((9, 0, 1),))


class Told(unittest.TestCase):
    def test_lots(self):
        for web in ALL:
            lots = tuple(sorted(tuple(sorted(lot)) for lot in lots_of(web.many, web.ties)))
            self.assertEqual(web.lots, lots)
            self.assertIs(web.hangs, len(lots) == 1)
        self.assertEqual(Web(10, ()).lots, tuple((place,) for place in range(10)))

    def test_signs_bridges_and_loops(self):
        for web in ALL:
            self.assertEqual(web.signs, tuple(sign for _, _, sign in web.ties))
            self.assertEqual(web.bridges, bridges_of(web.many, web.ties))
            self.assertEqual(web.loops, tuple(tie for tie, (a, b, _) in enumerate(web.ties) if a == b))
        self.assertEqual(Web(10, signed(PATH, 5)).bridges, tuple(range(9)))
        self.assertEqual(Web(1, signed([(0, 0)] * 9, 5)).loops, tuple(range(9)))

    def test_blocks(self):
        for web in ALL:
            self.assertEqual(web.blocks, blocks_of(web.ties))
            for tie in web.bridges + web.loops:
                self.assertIn((tie,), web.blocks)
        self.assertEqual((Web(3, ()).blocks, CROWDED.blocks), ((), (tuple(range(9)),)))

    def test_length_and_iteration(self):
        for web in ALL:
            self.assertEqual((len(web), list(web)), (len(web.ties), list(web.ties)))
            for value in WRONG + [(0, 0, True), (False, 0, 1), (0, 1), (), 0, (0, 0, 0), web.ties + (0,)]:
                self.assertIs(value in web, False)
            for tie in web.ties:
                self.assertIs(tie in web, True)
        for value in ((0, 1, True), (0, 1, -1), (1, 0, 1), (2, 2, 1), (2, 0, 1), (0, 3, 1)):
            self.assertIs(value in MIXED, False)

    def test_texts(self):
        self.assertEqual([str(web) for web in (PARTED, CROWDED, Web(10, ()), Web(1, ((0, 0, 1),)))], [
            "web of 3 places, 1 ties", "web of 6 places, 9 ties", "web of 10 places, 0 ties", "web of 1 places, 1 ties"])

    def test_equal_webs(self):
        members = WEBS + [Web(4, MIXED.ties), Web(3, MIXED.ties[::-1]), MIXED.with_signs((1,) * 5)]
        check_equality(self, members, lambda web: Web(web.many, tuple(tuple(list(tie)) for tie in web.ties)),
                       [MIXED.ties, MIXED.lines, (3, MIXED.ties), str(MIXED), 3, 5, ()])

    def test_signs_that_there_are_not(self):
        for call in (lambda: MIXED + MIXED, lambda: MIXED < MIXED, lambda: MIXED[0], lambda: -MIXED, lambda: MIXED * 2):
            with self.assertRaises(TypeError):
                call()


class Changed(unittest.TestCase):
    def test_struck(self):
        for web in ALL:
            for tie in range(len(web)):
                other = web.struck(tie)
                self.assertEqual((other.many, other.ties), (web.many, web.ties[:tie] + web.ties[tie + 1:]))

    def test_drawn_together(self):
        for web in ALL:
            for tie, (a, b, _) in enumerate(web.ties):
                if a == b:
                    check_refused(self, InvalidOperation, web.drawn_together, tie)
                    continue
                left = [place for place in range(web.many) if place != max(a, b)]
                names = {place: left.index(min(a, b) if place == max(a, b) else place) for place in range(web.many)}
                other = web.drawn_together(tie)
                self.assertEqual(other.many, web.many - 1)
                self.assertEqual(other.ties,
                                 tuple((names[c], names[d], sign) for at, (c, d, sign) in enumerate(web.ties) if at != tie))
        self.assertEqual(Web(2, signed([(0, 1), (1, 0)], 1)).drawn_together(1), Web(1, ((0, 0, 1),)))

    def test_with_signs(self):
        for web in ALL:
            for number in (0, 1, 0b1010101):
                signs = pattern(number, len(web))
                other = web.with_signs(signs)
                self.assertEqual((other.many, other.signs), (web.many, signs))
                self.assertEqual([tie[:2] for tie in other], [tie[:2] for tie in web])

    def test_refused(self):
        for web in WEBS:
            wrongs = wrong_indices(len(web))
            check_arguments(self, web.struck, ([], wrongs, InvalidNumber))
            check_arguments(self, web.drawn_together, ([], wrongs, InvalidNumber))
            signs = web.signs
            for value in [value for value in WRONG if value != () or not isinstance(value, tuple)] + [
                    signs + (1,), list(signs), signs[:-1] + (0,), signs[:-1] + (2,), signs[:-1] + (True,), signs[:-1] + (None,),
                    signs[:-1] + ("1",), (1,) * (len(web) + 1), {0: 1}, web]:
                if len(web) > 0 or value != ():
                    check_refused(self, InvalidOperation, web.with_signs, value)
            if len(web) > 0:
                check_refused(self, InvalidOperation, web.with_signs, ())
                check_refused(self, InvalidOperation, web.with_signs, signs[1:])

    def test_nothing_is_changed(self):
        ties, web = CROWDED.ties, Web(6, CROWDED.ties)
        for tie in range(9):
            self.assertEqual((web.struck(tie), web.drawn_together(tie)), (web.struck(tie), web.drawn_together(tie)))
        self.assertEqual(web.with_signs((1,) * 9).with_signs(CROWDED.signs), web)
        self.assertEqual((web.many, web.ties), (6, ties))


class Trees(unittest.TestCase):
    def test_all_trees(self):
        for web in ALL:
            trees = trees_of(web.many, web.ties)
            self.assertEqual(list(each_tree(web)), trees)
            self.assertEqual(count_trees(web), len(trees))
            self.assertEqual(signed_count(web), sum(product_of_signs(web.ties, tree) for tree in trees))
            self.assertEqual(count_trees(web) > 0, web.hangs)
            check_plain(self, tuple(each_tree(web)))
        self.assertEqual([count_trees(Web(1, ())), signed_count(Web(1, ()))], [1, 1])
        self.assertEqual([count_trees(Web(2, ())), signed_count(Web(2, ())), list(each_tree(Web(10, ())))], [0, 0, []])
        self.assertEqual([count_trees(CROWDED), count_trees(Web(10, signed(PATH, 6)))], [81, 1])

    def test_all_sets_of_ties(self):
        for web in WEBS:
            trees = trees_of(web.many, web.ties)
            for value in subsets(len(web)):
                self.assertIs(is_tree(web, value), value in trees)
                if len(value) > 1 and value in trees:
                    self.assertIs(is_tree(web, value[::-1]), False)
                    self.assertIs(is_tree(web, value[:-1] + value[:1]), False)

    def test_values_that_are_no_trees(self):
        for web in (MIXED, PARTED, Web(1, ()), Web(2, ((0, 1, -1),)), WEBS[15], Web(1, ((0, 0, 1),))):
            check_judged(self, lambda value: is_tree(web, value), trees_of(web.many, web.ties),
                         [(0, 0), (len(web),), (-1,), (0, True), (0, len(web)), (False,), (0, 1, 2, 3, 4, 5)])

    def test_striking_and_drawing_together(self):
        for web in ALL:
            for tie in range(len(web)):
                if tie not in web.bridges + web.loops:
                    struck, drawn, sign = web.struck(tie), web.drawn_together(tie), web.signs[tie]
                    self.assertEqual(count_trees(web), count_trees(struck) + count_trees(drawn))
                    self.assertEqual(signed_count(web), signed_count(struck) + sign * signed_count(drawn))
            turned = [tie for block in web.blocks[::2] for tie in block]
            alike = web.with_signs(tuple(-1 if tie in turned else 1 for tie in range(len(web))))
            self.assertIn(signed_count(alike), (count_trees(web), -count_trees(web)))

    def test_one_by_one(self):
        made = each_tree(CROWDED)
        self.assertEqual([next(made), next(made)], [(0, 1, 2, 3, 6), (0, 1, 2, 3, 7)])

    def test_cuts_and_rings(self):
        for web in WEBS + TINY_WEBS[::3]:
            for tree in trees_of(web.many, web.ties)[::5]:
                for tie in range(len(web)):
                    if tie in tree:
                        self.assertEqual(cut_closed(web, tree, tie), cut_with(web.many, web.ties, tree, tie))
                        check_refused(self, InvalidOperation, ring_closed, web, tree, tie)
                    else:
                        self.assertEqual(ring_closed(web, tree, tie), ring_with(web.ties, tree, tie))
                        self.assertIn(ring_closed(web, tree, tie), rings_of(web.ties))
                        check_refused(self, InvalidOperation, cut_closed, web, tree, tie)

    def test_refused(self):
        trees = trees_of(MIXED.many, MIXED.ties)
        wrongs = [value for value in WRONG if value not in trees] + [
            (0,), (0, 3), (1, 0), [0, 1], (1, 4), (0, 1, 2), (0, 5), (), (False, 1), (0, True), ((0, 1),), (-1, 0)]
        for function in (cut_closed, ring_closed):
            tie = 0 if function is cut_closed else 2
            check_arguments(self, function, ([MIXED], NO_WEBS, InvalidWeb), ([(0, 1)], wrongs, InvalidTree),
                            ([tie], wrong_indices(5), InvalidNumber))
            check_arguments(self, lambda web: function(web, (0,), 0), ([CROWDED], NO_WEBS, InvalidWeb))
            for tree in ((), (0,)):
                check_refused(self, InvalidTree, function, PARTED, tree, 0)
        check_refused(self, InvalidNumber, ring_closed, Web(1, ((0, 0, 1),)), (), 1, kept=1)
        check_generator(self, each_tree, ([MIXED], NO_WEBS, InvalidWeb))
        for function in (count_trees, signed_count, lambda web: is_tree(web, (0, 1)), lambda web: is_tree(web, None)):
            check_arguments(self, function, ([MIXED], NO_WEBS, InvalidWeb))


if __name__ == "__main__":
    unittest.main()
