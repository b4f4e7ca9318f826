"""Class groups, determinants and colourings: stage 14, [0.17], and [0.1] to [0.7] as far as they reach it."""

import inspect
import random
import unittest
from itertools import islice, product
from math import gcd, prod

from crosswebs.draw.drawings import Drawing
from crosswebs.draw.joins import apart, piece_at, summed
from crosswebs.draw.moves import each_move, moved
from crosswebs.errors import InvalidDrawing, InvalidNumber, InvalidOperation, InvalidWeb, TooMany
from crosswebs.group import groups
from crosswebs.group.groups import (MAX_COLOURINGS, MAX_SIDE, class_orders, count_colourings, determinant, each_colouring,
                                    is_colouring, is_shortening, orders_of, over_runs, shortened, shortening, table_of)
from crosswebs.webs.shades import dark_of, light_of
from crosswebs.webs.webs import Web, count_trees, signed_count
from tests.plain_groups import (fits, plain_colourings, plain_determinant, plain_is_shortening, plain_orders,
                                plain_over_runs, times_table)
from tests.plain_webs import product_of_signs, trees_of
from tests.refusals import broken, check_arguments, check_generator, check_judged, check_plain, check_refused, wrong_but
from tests.samples import (CURL, EIGHT, KNOT, LINKED, NINE, REACHED, RING, SAMPLES, SMALL, TINY_WEBS, TWO_PIECES, WEBS, WOVEN,
                           WRONG, curls, shuffled, twisted)

NO_DRAWINGS, NO_WEBS = wrong_but(Drawing), wrong_but(Web)
BIG = 10 ** 60 - 1
ALL = SAMPLES + REACHED + SMALL[::25]


def tables_of(side, seed, numbers):
    """Some square tables of numbers."""
    chance = random.Random(seed)
    return [tuple(tuple(chance.choice(numbers) for _ in range(side)) for _ in range(side)) for _ in range(8)]


def diagonal(*numbers):
    return tuple(tuple(number if at == place else 0 for at in range(len(numbers))) for place, number in enumerate(numbers))


TABLES = [(), ((0,),), ((1,),), ((-1,),), ((-7,),), ((BIG,),), ((0, 1), (0, 0)), ((0, 0), (5, 0)), ((2, 4), (4, 6)), ((6, 0), (0, 4)),
          ((6, 10), (15, 0)), ((0, 0), (0, 0)), diagonal(4, 6, 10), diagonal(0, -3, 0, 2), diagonal(0, 0, 1), ((2, 3), (4, 6))]
TABLES += [table for side in (2, 3, 4) for seed, numbers in enumerate(((0, 1, -1), (0, 2, 4, -6, 3), (0, 0, 5, 30, -12),
                                                                      range(-9, 10))) for table in tables_of(side, seed, numbers)]
LARGE = [table for side in (5, 9) for seed, numbers in enumerate(((0, 1, -1, 2), (0, 6, 4, -10, 15), range(-99, 100),
         (0, 0, BIG, -BIG, 10 ** 59, 2 ** 199, 6 ** 77))) for table in tables_of(side, seed, numbers)[:3]]
LARGE += [diagonal(*range(2, 11)), diagonal(0, 4, 0, 6, 0, 9, 0, 0, 10), ((0,) * 9,) * 9, ((BIG,) * 9,) * 9]
NO_TABLES = WRONG + [((1, 2),), ((1,), (2,)), ((1, 2), (3,)), [(1,)], ([1],), ((True,),), ((None,),), ((10 ** 60,),),
                     ((-10 ** 60,),), (("1",),), ((1, 0), [0, 1]), diagonal(*[1] * 10), ((),), ((), ()), (1,), ((((1,),),),), 0,
                     ((0, 0), (0, False)), ((0,) * 10,) * 9]
NO_TABLES = [value for value in NO_TABLES if str(value) not in ("()", "((0,),)")]


class Examples(unittest.TestCase):
    def test_tables(self):
        told = [table_of(Web(2, ((0, 1, -1), (0, 1, -1), (0, 1, -1)))),
                table_of(Web(3, ((0, 1, 1), (1, 2, 1), (2, 0, 1), (1, 1, -1)))), table_of(Web(1, ((0, 0, 1),)))]
        self.assertEqual(told, [((-3,),), ((2, -1), (-1, 2)), ()])

    def test_orders(self):
        told = [shortened(((2, -1), (-1, 2))), shortened(((2, 4), (4, 6))), shortened(((0, 0), (0, 5))),
                shortened(((6, 0), (0, 4))), shortened(())]
        self.assertEqual(told, [(3,), (2, 2), (5, 0), (2, 12), ()])
        told = [is_shortening(((-3,),), (((1,),), ((-1,),))), is_shortening(((-3,),), (((1,),), ((1,),))),
                is_shortening(((0, 1), (0, 0)), (((1, 0), (0, 1)), ((0, 1), (1, 0))))]
        self.assertEqual(told, [True, False, True])

    def test_drawings(self):
        told = [[orders_of(one) for one in (RING, CURL, LINKED, KNOT, EIGHT)], orders_of(Drawing(KNOT.crossings, rings=2)),
                [determinant(one) for one in (RING, LINKED, EIGHT, Drawing(rings=2))]]
        self.assertEqual(told, [[(), (), (2,), (3,), (5,)], (3, 0, 0), [1, 2, 5, 0]])

    def test_colourings(self):
        told = [over_runs(KNOT), over_runs(CURL), over_runs(Drawing(rings=2)), [count_colourings(KNOT, many) for many in (1, 2, 3, 6)],
                count_colourings(EIGHT, 5), count_colourings(Drawing(rings=2), 7)]
        self.assertEqual(told, [((0, 5), (1, 3), (2, 4)), ((0, 1),), ((), ()), [1, 2, 9, 18], 25, 49])
        told = [list(each_colouring(LINKED, 2)), is_colouring(KNOT, 3, (0, 1, 2)), is_colouring(KNOT, 3, (0, 1, 1)),
                is_colouring(KNOT, 5, (4, 4, 4))]
        self.assertEqual(told, [[(0, 0), (0, 1), (1, 0), (1, 1)], True, False, True])


class Tables(unittest.TestCase):
    def test_constants(self):
        self.assertEqual((MAX_SIDE, MAX_COLOURINGS), (9, 5000))

    def test_tables_of_webs(self):
        for web in WEBS + TINY_WEBS:
            table = table_of(web)
            check_plain(self, table)
            self.assertEqual(len(table), web.many - 1)
            for one in range(1, web.many):
                for other in range(1, web.many):
                    if one == other:
                        told = sum(sign for a, b, sign in web.ties if (a == one) != (b == one))
                    else:
                        told = -sum(sign for a, b, sign in web.ties if {a, b} == {one, other})
                    self.assertEqual(table[one - 1][other - 1], told)
        self.assertEqual([table_of(Web(1, ())), table_of(Web(3, ())), table_of(Web(1, ((0, 0, 1),) * 9))], [(), ((0, 0), (0, 0)), ()])

    def test_signed_counts_are_determinants(self):
        for web in WEBS + TINY_WEBS:
            count = sum(product_of_signs(web.ties, tree) for tree in trees_of(web.many, web.ties))
            self.assertEqual((plain_determinant(table_of(web)), signed_count(web)), (count, count))

    def test_orders_of_tables(self):
        for table in TABLES:
            orders = shortened(table)
            self.assertEqual(orders, plain_orders(table))
            check_plain(self, orders)
        for table in LARGE:
            orders = shortened(table)
            self.assertEqual(prod(orders) if len(orders) else 1, abs(plain_determinant(table)))
            self.assertTrue(all(b % a == 0 if a else b == 0 for a, b in zip(orders, orders[1:])))
            self.assertTrue(all(order == 0 or order > 1 for order in orders))
        self.assertEqual(shortened(diagonal(4, 6, 10)), (2, 2, 60))
        self.assertEqual([shortened(((0,) * 9,) * 9), shortened(((BIG,) * 9,) * 9)], [(0,) * 9, (BIG,) + (0,) * 8])
        self.assertEqual(shortened(diagonal(*[BIG] * 9)), (BIG,) * 9)

    def test_orders_of_the_tables_of_webs(self):
        for web in WEBS + TINY_WEBS:
            self.assertEqual(class_orders(web), shortened(table_of(web)))
            if web.many < 6:
                self.assertEqual(class_orders(web), plain_orders(table_of(web)))
        self.assertEqual([class_orders(Web(1, ())), class_orders(Web(10, ())), class_orders(Web(3, ((0, 2, -1),)))],
                         [(), (0,) * 9, (0,)])

    def test_refused(self):
        for function in (table_of, class_orders):
            check_arguments(self, function, ([WEBS[0]], NO_WEBS + [dark_of(KNOT), WEBS[0].ties], InvalidWeb))
        for function in (shortened, shortening):
            check_arguments(self, function, ([((3,),)], NO_TABLES, InvalidOperation))
        for value in (((), ()), None):
            check_arguments(self, lambda table: is_shortening(table, value), ([()], NO_TABLES, InvalidOperation))

    def test_defined_here(self):
        for function, told in ((table_of, "(web)"), (shortened, "(table)"), (shortening, "(table)"), (class_orders, "(web)"),
                               (is_shortening, "(table, value)"), (orders_of, "(drawing)"), (determinant, "(drawing)"),
                               (over_runs, "(drawing)"), (count_colourings, "(drawing, many)"), (each_colouring, "(drawing, many)"),
                               (is_colouring, "(drawing, many, value)")):
            self.assertEqual((function.__module__, str(inspect.signature(function))), (groups.__name__, told))


class Shortenings(unittest.TestCase):
    def test_made(self):
        for table in TABLES + LARGE:
            told = shortening(table)
            self.assertEqual((type(told), len(told)), (tuple, 2))
            check_plain(self, told)
            self.assertTrue(plain_is_shortening(table, *told))
            self.assertIs(is_shortening(table, told), True)
            made = times_table(times_table(told[0], table), told[1])
            self.assertEqual(tuple(made[at][at] for at in range(len(table)) if made[at][at] != 1), shortened(table))

    def test_numbers_stay_short(self):
        for table in LARGE:
            for part in shortening(table):
                self.assertLess(max(abs(number) for row in part for number in row), 10 ** 2000)

    def test_all_of_small_tables(self):
        for table in (((0, 1), (0, 0)), ((2, 0), (0, -2)), ((1, 1), (1, 0)), ((0, 2), (1, 1))):
            rows = list(product((-1, 0, 1), repeat=2))
            sides = [pair for pair in product(rows, repeat=2)]
            found = 0
            for left in sides:
                for right in sides:
                    told = plain_is_shortening(table, left, right)
                    found += told
                    self.assertIs(is_shortening(table, (left, right)), told)
            self.assertGreater(found, 0)

    def test_numbers_of_whatever_size(self):
        many = 10 ** 99
        for table in (((0, 0), (0, 0)), diagonal(1, 0), diagonal(1, 2)):
            self.assertIs(is_shortening(table, (((1, 0), (0, 1)), ((1, 0), (0, 1)))), True)
        zeros = ((0, 0), (0, 0))
        for left in (((1, many), (0, 1)), ((many, many + 1), (many - 1, many)), ((many + 1, many), (1, 1)), ((0, -1), (1, many ** 7))):
            for right in (left, ((1, 0), (-many ** 5, -1))):
                told = abs(left[0][0] * left[1][1] - left[0][1] * left[1][0]) == 1
                self.assertTrue(told)
                self.assertIs(is_shortening(zeros, (left, right)), True)
                self.assertIs(is_shortening(zeros, (left, ((many, 0), (0, 1)))), False)
        self.assertIs(is_shortening(diagonal(1, 0), (((1, many), (0, 1)), ((1, 0), (many, 1)))), True)
        self.assertIs(is_shortening(diagonal(1, 2), (((1, many), (0, 1)), ((1, -2 * many), (0, 1)))), True)
        self.assertIs(is_shortening(diagonal(1, 2), (((1, many), (0, 1)), ((1, -2 * many + 1), (0, 1)))), False)

    def test_near_them(self):
        one = ((1, 0), (0, 1))
        for table, left, right, told in (
                (diagonal(2, 4), one, one, True), (diagonal(4, 2), one, one, False), (diagonal(-2, 4), one, one, False),
                (diagonal(0, 2), one, one, False), (diagonal(2, 0), one, one, True), (diagonal(2, 3), one, one, False),
                (((2, 1), (0, 4)), one, one, False), (diagonal(0, 0), one, diagonal(1, -1), True),
                (diagonal(0, 0), diagonal(1, 2), one, False), (diagonal(0, 0), one, diagonal(0, 1), False),
                (diagonal(0, 0), one, ((1, 1), (1, 1)), False), (diagonal(2, 4), one, ((0, 1), (1, 0)), False)):
            self.assertIs(is_shortening(table, (left, right)), told)
        for value in ((one,), (one, one, one), one, [one, one], (list(one), one), (one, ([1, 0], [0, 1])), (one, ((1,),)), (one, ()),
                      (((1, 0, 0), (0, 1, 0), (0, 0, 1)), one), (((True, 0), (0, 1)), one), (one, ((1, False), (0, 1))), (one, None)):
            self.assertIs(is_shortening(diagonal(2, 4), value), False)

    def test_values_like_shortenings(self):
        check_judged(self, lambda value: is_shortening((), value), [((), ())], [((),), (((),), ((),)), (), ((0,), (0,))])
        rights = [(((a,),), ((b,),)) for a, b in ((1, -1), (-1, 1))]
        check_judged(self, lambda value: is_shortening(((-3,),), value), rights, [(((3,),), ((-1,),)), (((1,),), ((1,),)), (-1, 1)])
        for value in broken(shortening(((2, 4), (4, 6)))):
            told = type(value) is tuple and "True" not in str(value) and len(value) == 2 and all(
                type(part) is tuple and len(part) == 2 and all(type(row) is tuple and len(row) == 2 and all(
                    type(number) is int for number in row) for row in part) for part in value)
            self.assertIs(is_shortening(((2, 4), (4, 6)), value),
                          "False" not in str(value) and told and plain_is_shortening(((2, 4), (4, 6)), *value))


class Drawings(unittest.TestCase):
    def test_orders(self):
        for drawing in ALL:
            blocks = [table_of(dark_of(piece_at(drawing, index)).web) for index in range(len(drawing.pieces))]
            zeros = len(drawing.pieces) + drawing.rings - 1
            side = sum(len(block) for block in blocks)
            table = [[0] * side for _ in range(side)]
            at = 0
            for block in blocks:
                for row, numbers in enumerate(block):
                    table[at + row][at:at + len(block)] = numbers
                at += len(block)
            orders = orders_of(drawing)
            check_plain(self, orders)
            self.assertEqual(orders[len(orders) - zeros:], (0,) * zeros)
            self.assertEqual(orders[:len(orders) - zeros], plain_orders(table) if side < 6 else shortened(tuple(map(tuple, table))))
            self.assertEqual(determinant(drawing), prod(orders))
        self.assertEqual([orders_of(Drawing(rings=9)), orders_of(Drawing(curls(9), rings=9)), orders_of(apart(KNOT, EIGHT))],
                         [(0,) * 8, (0,) * 17, (15, 0)])
        self.assertEqual([orders_of(summed(KNOT, 0, KNOT, 0)), orders_of(summed(KNOT, 0, EIGHT, 0)), orders_of(NINE),
                          orders_of(Drawing(twisted(8)))], [(3, 3), (15,), (9,), (8,)])
        self.assertEqual([determinant(some) for some in (CURL, TWO_PIECES, WOVEN, NINE)], [1, 0, 0, 9])

    def test_both_webs(self):
        for drawing in ALL:
            if drawing.is_one_piece:
                dark, light = dark_of(drawing).web, light_of(drawing).web
                self.assertEqual((class_orders(dark), class_orders(light)), (orders_of(drawing),) * 2)
                self.assertEqual((abs(signed_count(dark)), abs(signed_count(light))), (determinant(drawing),) * 2)
                if len(set(dark.signs)) == 1:
                    self.assertEqual(determinant(drawing), count_trees(dark))

    def test_no_move_changes_them(self):
        for drawing in [drawing for drawing in SAMPLES + REACHED if len(drawing) < 8]:
            told = (orders_of(drawing), [count_colourings(drawing, modulus) for modulus in (2, 3, 4, 10 ** 59)])
            for move in list(each_move(drawing))[::5]:
                behind = moved(drawing, move)
                self.assertEqual((orders_of(behind), [count_colourings(behind, modulus) for modulus in (2, 3, 4, 10 ** 59)]), told)

    def test_refused(self):
        for function in (orders_of, determinant, over_runs):
            check_arguments(self, function, ([KNOT], NO_DRAWINGS, InvalidDrawing))


class Colourings(unittest.TestCase):
    def test_over_runs(self):
        for drawing in ALL:
            told = over_runs(drawing)
            check_plain(self, told)
            self.assertEqual(told, plain_over_runs(drawing.crossings, drawing.rings))
        upper = Drawing(((1, 2, 3, 0), (3, 2, 1, 0)))
        self.assertEqual(over_runs(upper), ((0, 2), (1,), (3,)))

    def test_counts(self):
        for drawing in ALL:
            for modulus in (1, 2, 3, 7, 12, BIG):
                told = modulus * prod(gcd(order, modulus) for order in orders_of(drawing))
                self.assertEqual((count_colourings(drawing, modulus), type(count_colourings(drawing, modulus))), (told, int))
        self.assertEqual([count_colourings(Drawing(rings=9), BIG), count_colourings(KNOT, 3 * 10 ** 58)], [BIG ** 9, 9 * 10 ** 58])

    def test_all_out_of_all_tuples(self):
        for drawing in ALL + [Drawing(shuffled(KNOT.crossings), rings=1), Drawing(((1, 2, 3, 0), (3, 2, 1, 0)))]:
            runs = len(over_runs(drawing))
            for modulus in (1, 2, 3, 4, 5, 6, 9):
                if modulus ** runs > 3000:
                    continue
                told = plain_colourings(drawing.crossings, drawing.rings, modulus)
                self.assertEqual(list(each_colouring(drawing, modulus)), told)
                self.assertEqual(count_colourings(drawing, modulus), len(told))
                for value in islice(product(range(modulus), repeat=runs), 0, 300, 7):
                    self.assertIs(is_colouring(drawing, modulus, value), value in told)

    def test_all_of_large_drawings(self):
        for drawing in ALL + [apart(KNOT, EIGHT), summed(KNOT, 0, KNOT, 0)]:
            for modulus in (2, 3, 9, 30, 60):
                if count_colourings(drawing, modulus) <= 1000:
                    told = list(each_colouring(drawing, modulus))
                    check_plain(self, tuple(told[:20]))
                    self.assertEqual((told, len(told)), (sorted(set(told)), count_colourings(drawing, modulus)))
                    runs = over_runs(drawing)
                    self.assertTrue(all(fits(drawing.crossings, runs, modulus, value) for value in told[::7]))
                    self.assertTrue(all(len(value) == len(runs) and 0 <= min(value) and max(value) < modulus for value in told))
                    self.assertIs(is_colouring(drawing, modulus, told[-1]), True)

    def test_as_many_as_there_may_be(self):
        self.assertEqual(list(each_colouring(RING, 5000)), [(number,) for number in range(5000)])
        self.assertEqual(list(each_colouring(CURL, 4999))[-1], (4998,))
        self.assertEqual(len(list(each_colouring(KNOT, 4999))), 4999)
        self.assertEqual(len(list(each_colouring(KNOT, 1665))), 4995)
        self.assertEqual([list(each_colouring(some, 1)) for some in (RING, KNOT, Drawing(curls(9), rings=9))],
                         [[(0,)], [(0, 0, 0)], [(0,) * 18]])
        for drawing, modulus in ((RING, 5001), (KNOT, 1668), (KNOT, 5001), (Drawing(rings=2), 71), (RING, BIG), (TWO_PIECES, 18),
                                 (Drawing(rings=9), 3)):
            with self.assertRaises(TooMany) as caught:
                next(each_colouring(drawing, modulus))
            self.assertEqual(caught.exception.limit, 5000)
        self.assertEqual(len(list(each_colouring(Drawing(rings=9), 2))), 512)
        self.assertEqual(len(list(each_colouring(Drawing(rings=2), 70))), 4900)

    def test_one_by_one(self):
        made = each_colouring(EIGHT, 5)
        self.assertEqual([next(made), next(made)], [(0, 0, 0, 0), sorted(plain_colourings(EIGHT.crossings, 0, 5))[1]])

    def test_values_like_colourings(self):
        for drawing, modulus in ((RING, 3), (CURL, 2), (LINKED, 2), (KNOT, 3), (Drawing(rings=2), 2), (KNOT, 1)):
            rights = plain_colourings(drawing.crossings, drawing.rings, modulus)
            runs = len(over_runs(drawing))
            check_judged(self, lambda value: is_colouring(drawing, modulus, value), rights,
                         [(0,) * (runs + 1), (modulus,) * runs, (-1,) * runs, (False,) * runs, [0] * runs, (0,) * (runs - 1)])
        self.assertIs(is_colouring(KNOT, BIG, (BIG - 1,) * 3), True)
        self.assertIs(is_colouring(KNOT, BIG, (BIG,) * 3), False)
        self.assertIs(is_colouring(KNOT, 3 * 10 ** 58, (0, 10 ** 58, 2 * 10 ** 58)), True)

    def test_refused(self):
        moduli = [value for value in WRONG if type(value) is not int or value < 1 or value >= 10 ** 60] + [0, -3, True]
        check_arguments(self, count_colourings, ([KNOT], NO_DRAWINGS, InvalidDrawing), ([1], moduli, InvalidNumber))
        for value in ((0, 0, 0), None):
            check_arguments(self, lambda drawing, many: is_colouring(drawing, many, value), ([KNOT], NO_DRAWINGS, InvalidDrawing),
                            ([3], moduli, InvalidNumber))
        check_generator(self, each_colouring, ([KNOT], NO_DRAWINGS, InvalidDrawing), ([3], moduli, InvalidNumber))
        for function in (count_colourings, lambda drawing, many: next(each_colouring(drawing, many))):
            check_refused(self, InvalidNumber, function, Drawing(rings=9), 0, kept=0)

    def test_mirrors_and_views_from_behind(self):
        for drawing in (KNOT, EIGHT, LINKED, NINE):
            self.assertEqual(orders_of(drawing.mirror), orders_of(drawing))
            self.assertEqual(orders_of(drawing.behind), orders_of(drawing))


if __name__ == "__main__":
    unittest.main()
