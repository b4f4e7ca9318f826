"""The bracket by joining trees: stage 11, [0.14], and [0.1] to [0.5] as far as they reach it."""

import inspect
import unittest
from itertools import permutations, product

from crosswebs.base.rows import Row
from crosswebs.bracket import trees
from crosswebs.bracket.smoothings import bracket
from crosswebs.bracket.striking import bracket_by_sets, bracket_by_striking
from crosswebs.bracket.trees import (bracket_by_trees, busy_kinds, is_order, is_tree_paper, row_of_paper, tree_paper,
                                     weight)
from crosswebs.errors import InvalidOperation, InvalidOrder, InvalidPaper, InvalidTree, InvalidWeb
from crosswebs.webs.shades import dark_of, light_of
from crosswebs.webs.webs import Web
from tests.plain_brackets import plain_row_of_web, plus, times
from tests.plain_webs import bridges_of, cut_with, ring_with, subsets, trees_of
from tests.refusals import broken, check_arguments, check_judged, check_plain, check_refused, wrong_but
from tests.samples import CROWDED, MIXED, REACHED, SAMPLES, TINY_WEBS, WEBS, WRONG, pattern, signed

NO_WEBS = wrong_but(Web)
HANGING = [web for web in WEBS + TINY_WEBS if web.hangs]
PARTED = [web for web in WEBS if not web.hangs]
THREE = Web(2, ((0, 1, -1),) * 3)
TRIANGLE = Web(3, ((0, 1, 1), (1, 2, -1), (2, 0, 1)))
DOUBLED = Web(3, ((0, 1, 1), (0, 1, -1), (1, 2, -1), (1, 2, -1)))
ONE = Web(1, ())


def some_orders(web):
    """All orders of a web of few ties, several of another one."""
    ties = tuple(range(len(web)))
    if len(web) < 4:
        return list(permutations(ties))
    return [ties, ties[::-1], ties[1::2] + ties[::2], ties[3:] + ties[:3], tuple(sorted(ties, key=lambda tie: (tie * 5) % 7))]


def plain_kinds(web, tree, order):
    """The kinds of all ties, by cuts and rings."""
    told = []
    for tie in range(len(web)):
        if tie in tree:
            closed, word = cut_with(web.many, web.ties, tree, tie), "tree"
        else:
            closed, word = ring_with(web.ties, tree, tie), "other"
        told.append(word + " busy" if next(part for part in order if part in closed) == tie else word)
    return tuple(told)


def plain_weight(web, kinds):
    """The product of the powers of all ties, as a dict."""
    row = {0: 1}
    for kind, (_, _, sign) in zip(kinds, web.ties):
        row = times(row, {"tree busy": {-3 * sign: -1}, "tree": {sign: 1}, "other busy": {3 * sign: -1}, "other": {-sign: 1}}[kind])
    return row


def plain_is_paper(web, paper):
    """Whether triples tell each joining tree once, with reaches in which each set of ties stands just once."""
    if [tree for tree, _, _ in paper] != trees_of(web.many, web.ties):
        return False
    if not all(set(least) <= set(tree) <= set(greatest) for tree, least, greatest in paper):
        return False
    return all(sum(set(least) <= set(chosen) <= set(greatest) for _, least, greatest in paper) == 1
               for chosen in subsets(len(web)))


def reaches_of(web, tree):
    """All triples of a tree with a least and a greatest set."""
    others = [tie for tie in range(len(web)) if tie not in tree]
    return [(tree, tuple(tree[at] for at in least), tuple(sorted(tree + tuple(others[at] for at in more))))
            for least in subsets(len(tree)) for more in subsets(len(others))]


def all_papers(web):
    """All ways to give each joining tree a least and a greatest set."""
    return product(*[reaches_of(web, tree) for tree in trees_of(web.many, web.ties)])


def papers_with(web, left, taken):
    """All ways to give the trees that are left reaches, so that each set of ties is taken just once."""
    if not left:
        if len(taken) == 2 ** len(web):
            yield ()
        return
    for triple in reaches_of(web, left[0]):
        told = {chosen for chosen in subsets(len(web)) if set(triple[1]) <= set(chosen) <= set(triple[2])}
        if not told & taken:
            for rest in papers_with(web, left[1:], told | taken):
                yield (triple,) + rest


class Examples(unittest.TestCase):
    def test_kinds_and_weights(self):
        web = THREE
        self.assertEqual([busy_kinds(web, (tie,), (0, 1, 2)) for tie in (0, 1, 2)],
                         [("tree busy", "other", "other"), ("other busy", "tree", "other"), ("other busy", "other busy", "tree")])
        told = [str(weight(web, (tie,), (0, 1, 2))) for tie in (0, 1, 2)] + [str(bracket_by_trees(web))]
        self.assertEqual(told, ["-x^5", "-x^-3", "x^-7", "x^-7 - x^-3 - x^5"])

    def test_papers(self):
        web, paper = THREE, tree_paper(THREE, (0, 1, 2))
        told = [paper, str(row_of_paper(web, paper)), is_tree_paper(web, tree_paper(web, (2, 0, 1))),
                is_tree_paper(web, paper[:2]), is_order(web, (1, 2))]
        self.assertEqual(told, [(((0,), (), (0,)), ((1,), (1,), (0, 1)), ((2,), (2,), (0, 1, 2))), "x^-7 - x^-3 - x^5", True,
                                False, False])

    def test_orders(self):
        self.assertEqual([bracket_by_trees(MIXED, order=order) == bracket_by_trees(MIXED)
                          for order in ((4, 2, 3, 1, 0), (3, 2, 1, 0, 4))], [True, True])
        told = [busy_kinds(MIXED, (0, 1), (0, 1, 2, 3, 4)), str(bracket_by_trees(Web(1, ((0, 0, 1),)))),
                str(bracket_by_trees(ONE))]
        self.assertEqual(told, [("tree busy", "tree busy", "other", "other busy", "other"), "-x^3", "1"])


class Orders(unittest.TestCase):
    def test_values_that_are_orders(self):
        for web in [web for web in HANGING if len(web) < 4] + [MIXED]:
            check_judged(self, lambda value: is_order(web, value), list(permutations(range(len(web)))),
                         [(0,) * len(web) if len(web) > 1 else (1,), tuple(range(len(web) + 1)), tuple(range(1, len(web) + 1)),
                          list(range(len(web)))])
        self.assertIs(is_order(CROWDED, (8, 0, 7, 1, 6, 2, 5, 3, 4)), True)
        self.assertIs(is_order(Web(1, ((0, 0, 1),) * 2), (False, True)), False)
        self.assertIs(is_order(Web(1, ((0, 0, 1),) * 2), (0, True)), False)
        self.assertIs(is_order(ONE, ()), True)

    def test_refused(self):
        for value in ((), (0, 1), None, True):
            check_arguments(self, lambda web: is_order(web, value), ([ONE, MIXED], NO_WEBS, InvalidWeb))
            check_arguments(self, lambda web: is_order(web, value), ([MIXED], PARTED, InvalidOperation))

    def test_defined_here(self):
        for function, told in ((is_order, "(web, value)"), (busy_kinds, "(web, tree, order)"), (weight, "(web, tree, order)"),
                               (bracket_by_trees, "(web, *, order=None)"), (tree_paper, "(web, order)"),
                               (is_tree_paper, "(web, value)"), (row_of_paper, "(web, paper)")):
            self.assertEqual((function.__module__, str(inspect.signature(function))), (trees.__name__, told))


class Weights(unittest.TestCase):
    def test_kinds(self):
        for web in HANGING:
            for order in some_orders(web):
                for tree in trees_of(web.many, web.ties)[::1 if len(web) < 7 else 5]:
                    kinds = busy_kinds(web, tree, order)
                    self.assertEqual(kinds, plain_kinds(web, tree, order))
                    check_plain(self, kinds)
                    row = weight(web, tree, order)
                    self.assertEqual((type(row), row.terms), (Row, plain_weight(web, kinds)))

    def test_bridges_and_loops_are_busy(self):
        for web in HANGING:
            for order in some_orders(web)[:3]:
                for tree in trees_of(web.many, web.ties)[:20]:
                    kinds = busy_kinds(web, tree, order)
                    self.assertTrue(all(kinds[tie] == "tree busy" for tie in bridges_of(web.many, web.ties)))
                    self.assertTrue(all(kinds[tie] == "other busy" for tie, (a, b, _) in enumerate(web.ties) if a == b))

    def test_webs_of_loops_and_of_bridges_alone(self):
        loops, path = Web(1, signed([(0, 0)] * 9, 0b1011)), Web(10, signed([(at, at + 1) for at in range(9)], 0b1011))
        order = (3, 1, 4, 0, 5, 8, 2, 6, 7)
        self.assertEqual(busy_kinds(loops, (), order), ("other busy",) * 9)
        self.assertEqual(busy_kinds(path, tuple(range(9)), order), ("tree busy",) * 9)
        self.assertEqual([weight(loops, (), order).terms, weight(path, tuple(range(9)), order).terms], [{-9: -1}, {9: -1}])
        self.assertEqual([tree_paper(loops, order), tree_paper(path, order)],
                         [(((), (), tuple(range(9))),), ((tuple(range(9)), (), tuple(range(9))),)])
        self.assertEqual([busy_kinds(ONE, (), ()), weight(ONE, (), ()).terms, tree_paper(ONE, ())], [(), {0: 1}, (((), (), ()),)])

    def test_the_sum_is_the_same_row_for_every_order(self):
        for web in HANGING:
            told = plain_row_of_web(web.many, web.ties)
            for order in some_orders(web):
                self.assertEqual(bracket_by_trees(web, order=order).terms, told)
            row = bracket_by_trees(web)
            self.assertEqual((type(row), row.terms), (Row, told))
            self.assertEqual(bracket_by_trees(web, order=None), row)
            self.assertEqual((row, row), (bracket_by_sets(web), bracket_by_striking(web)))
        for order in permutations(range(5)):
            self.assertEqual(bracket_by_trees(MIXED, order=order).terms, plain_row_of_web(MIXED.many, MIXED.ties))

    def test_brackets_of_drawings(self):
        for drawing in SAMPLES + REACHED:
            if drawing.is_one_piece:
                for shade in (dark_of(drawing), light_of(drawing)):
                    order = tuple(range(len(drawing)))
                    self.assertEqual(bracket_by_trees(shade.web), bracket(drawing))
                    self.assertEqual(bracket_by_trees(shade.web, order=order[::-1]), bracket(drawing))

    def test_refused(self):
        orders = wrong_but(more=[(0, 1, 2, 3), (0, 1, 2, 3, 5), (0, 1, 2, 3, 3), [0, 1, 2, 3, 4], (0, True, 2, 3, 4), ()])
        no_trees = wrong_but(more=[(), (0,), (1, 0), (0, 3), (1, 4), (0, 1, 2), (0, 5), [0, 1], (False, 1), (0, True), None])
        for function in (busy_kinds, weight):
            check_arguments(self, function, ([MIXED], NO_WEBS, InvalidWeb), ([(0, 1), (2, 4)], no_trees, InvalidTree),
                            ([(0, 1, 2, 3, 4), (4, 3, 2, 1, 0)], orders, InvalidOrder))
            check_arguments(self, function, ([MIXED], PARTED, InvalidOperation), ([(0, 1), (2, 4)], no_trees, InvalidTree),
                            ([(0, 1, 2, 3, 4)], orders, InvalidOrder))
            check_refused(self, InvalidTree, function, ONE, (0,), ())
            check_refused(self, InvalidOrder, function, ONE, (), (0,))
        check_arguments(self, lambda web, order: bracket_by_trees(web, order=order), ([MIXED], NO_WEBS, InvalidWeb),
                        ([None], [value for value in orders if value is not None], InvalidOrder))
        check_arguments(self, lambda web, order: bracket_by_trees(web, order=order), ([MIXED], PARTED, InvalidOperation),
                        ([None], [value for value in orders if value is not None], InvalidOrder))
        check_arguments(self, tree_paper, ([MIXED], NO_WEBS, InvalidWeb), ([(4, 3, 2, 1, 0)], orders, InvalidOrder))
        check_arguments(self, tree_paper, ([MIXED], PARTED, InvalidOperation), ([(4, 3, 2, 1, 0)], orders, InvalidOrder))


class Papers(unittest.TestCase):
    def test_papers_by_orders(self):
        for web in HANGING:
            told = plain_row_of_web(web.many, web.ties)
            for order in some_orders(web)[:3]:
                paper = tree_paper(web, order)
                check_plain(self, paper)
                self.assertEqual([tree for tree, _, _ in paper], trees_of(web.many, web.ties))
                for tree, least, greatest in paper:
                    kinds = plain_kinds(web, tree, order)
                    self.assertEqual(least, tuple(tie for tie in tree if kinds[tie] == "tree"))
                    self.assertEqual(greatest, tuple(tie for tie in range(len(web)) if kinds[tie] != "other"))
                self.assertTrue(plain_is_paper(web, paper))
                self.assertIs(is_tree_paper(web, paper), True)
                self.assertEqual(row_of_paper(web, paper).terms, told)

    def test_all_papers_of_small_webs(self):
        for web in (THREE, TRIANGLE, Web(2, ((0, 1, 1), (1, 0, -1), (1, 1, 1))), Web(3, signed([(0, 1), (2, 1), (1, 2)], 2)), ONE,
                    Web(1, ((0, 0, -1),) * 2), Web(2, ((0, 1, 1),))):
            for paper in all_papers(web):
                right = plain_is_paper(web, paper)
                self.assertIs(is_tree_paper(web, paper), right)
                if right:
                    self.assertEqual(row_of_paper(web, paper).terms, plain_row_of_web(web.many, web.ties))
                else:
                    check_refused(self, InvalidPaper, row_of_paper, web, paper)

    def test_papers_that_come_by_no_order(self):
        for web, many, by_none in ((DOUBLED, 12, 8), (Web(3, signed([(0, 1), (1, 2), (2, 0), (0, 1)], 0b0110)), 48, 32)):
            papers = list(papers_with(web, trees_of(web.many, web.ties), set()))
            by_orders = {tree_paper(web, order) for order in permutations(range(len(web)))}
            self.assertEqual((len(papers), len(set(papers) - by_orders)), (many, by_none))
            self.assertLessEqual(by_orders, set(papers))
            for paper in papers:
                self.assertIs(is_tree_paper(web, paper), True)
                self.assertEqual(row_of_paper(web, paper).terms, plain_row_of_web(web.many, web.ties))
                for other in papers[:3]:
                    mixed = paper[:2] + other[2:]
                    self.assertIs(is_tree_paper(web, mixed), mixed in papers)

    def test_reaches_that_are_bent_doubled_or_left_out(self):
        for web in (THREE, MIXED, CROWDED, Web(5, signed([(0, 1), (1, 2), (2, 0), (2, 3), (3, 4), (4, 2)], 0b010101))):
            paper = tree_paper(web, tuple(range(len(web)))[::-1])
            wrongs = [paper[:at] + paper[at + 1:] for at in range(len(paper))]
            wrongs += [paper[:at] + paper[at:at + 1] + paper[at:] for at in range(len(paper))]
            wrongs += [paper[::-1], paper + paper, paper + ((),), (paper,), list(paper), paper[1:] + paper[:1]]
            for at, (tree, least, greatest) in enumerate(paper[:12]):
                bent = [(tree, least[1:], greatest), (tree, least, greatest[1:]), (tree, tree, greatest), (tree, (), greatest),
                        (tree, least, tuple(range(len(web)))), (tree, least, tree), (tree, least), (tree, least, greatest, ()),
                        [tree, least, greatest], (list(tree), least, greatest), (tree, least, list(greatest)),
                        (tree[::-1], least, greatest), (tree, least, greatest[::-1]), (tree, greatest, least),
                        (tree, least + least, greatest), (tree, least, greatest + (len(web),)), (tree, least, greatest + greatest)]
                wrongs += [paper[:at] + (triple,) + paper[at + 1:] for triple in bent
                           if triple != (tree, least, greatest)]
            for value in wrongs:
                self.assertIs(is_tree_paper(web, value), False, value)
                check_refused(self, InvalidPaper, row_of_paper, web, value)

    def test_ties_that_there_are_not(self):
        # One reach is too small, and another one seems to be as large as both together.
        for paper in ((((0,), (), (0,)), ((1,), (1,), (0, 1, 3)), ((2,), (2,), (0, 2))),
                      (((0,), (), (0, 3)), ((1,), (1,), (0, 1)), ((2,), (2,), (0, 2))),
                      (((0,), (), (0,)), ((1,), (1,), (0, 1)), ((2,), (2,), (0, 1, 3)))):
            self.assertIs(is_tree_paper(THREE, paper), False)
            check_refused(self, InvalidPaper, row_of_paper, THREE, paper)

    def test_values_like_papers(self):
        for web in (THREE, TRIANGLE, ONE, MIXED):
            papers = [tree_paper(web, order) for order in some_orders(web)[:2]]
            rights = papers if len(web) > 3 else [paper for paper in all_papers(web) if plain_is_paper(web, paper)]
            check_judged(self, lambda value: is_tree_paper(web, value), papers[:1] if len(web) > 3 else rights,
                         [((), (), ()), ()] + [value for value in broken(papers[0]) if value not in rights])

    def test_refused(self):
        for value in (tree_paper(THREE, (0, 1, 2)), None):
            check_arguments(self, lambda web: is_tree_paper(web, value), ([THREE], NO_WEBS, InvalidWeb))
            check_arguments(self, lambda web: is_tree_paper(web, value), ([THREE], PARTED, InvalidOperation))
        papers = [tree_paper(THREE, (0, 1, 2)), tree_paper(THREE, (2, 0, 1))]
        wrongs = WRONG + [papers[0][:2], tree_paper(TRIANGLE, (0, 1, 2)), (), list(papers[0])]
        check_arguments(self, row_of_paper, ([THREE], NO_WEBS, InvalidWeb), (papers, wrongs, InvalidPaper))
        check_arguments(self, row_of_paper, ([THREE], PARTED, InvalidOperation), (papers, wrongs, InvalidPaper))

    def test_signs_may_differ_in_equal_papers(self):
        for number in range(8):
            web = Web(2, signed([(0, 1)] * 3, number))
            paper = tree_paper(THREE, (1, 2, 0))
            self.assertEqual(row_of_paper(web, paper).terms, plain_row_of_web(2, web.ties))
            self.assertEqual(web.signs, pattern(number, 3))

    def test_sums_of_weights(self):
        for web in HANGING:
            total = {}
            for tree, least, greatest in tree_paper(web, some_orders(web)[-1]):
                kinds = [("tree" if tie in least else "tree busy") if tie in tree else
                         ("other busy" if tie in greatest else "other") for tie in range(len(web))]
                total = plus(total, plain_weight(web, kinds))
            self.assertEqual(total, plain_row_of_web(web.many, web.ties))


if __name__ == "__main__":
    unittest.main()
