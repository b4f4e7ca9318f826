"""The main statements, [0.13] to [0.20], on drawings of several kinds, each by ways that share nothing."""

import unittest

from crosswebs.bracket.fewest import blocks_alike, is_alternate, is_long, least_crossings, turning_number
from crosswebs.bracket.kept import are_told_apart, bare_row, kept_by_trees, kept_row, kept_rows, relation_rows
from crosswebs.bracket.smoothings import bracket, pure_circles, smoothed
from crosswebs.bracket.striking import bracket_by_sets, bracket_by_striking, relation
from crosswebs.bracket.trees import bracket_by_trees, row_of_paper, tree_paper
from crosswebs.change.changes import apart_by, conway_by_relation, going_down, switches_at_least
from crosswebs.draw.courses import Course
from crosswebs.draw.drawings import Drawing
from crosswebs.draw.joins import apart, matching, piece_at, summed
from crosswebs.draw.moves import back_move, each_move, is_move, moved
from crosswebs.group.groups import (class_orders, count_colourings, determinant, each_colouring, is_shortening, orders_of,
                                    shortening, table_of)
from crosswebs.pairs.alexander import alexander_row, conway_row, determinant_told, in_powers, signature
from crosswebs.pairs.pairings import clock_turns, each_pairing, highest, is_way_up, lowest, tree_of, turned, way_up
from crosswebs.use.bench import Bench
from crosswebs.webs.shades import dark_of, drawing_of, light_of
from crosswebs.webs.webs import Web, count_trees, each_tree, signed_count
from tests.grown import GROWN, LARGE, grown
from tests.plain_brackets import plain_bracket
from tests.plain_pairs import plain_signature_of
from tests.samples import CURL, EIGHT, KNOT, LINKED, NINE, REACHED, RING, SAMPLES, TWO_PIECES, WOVEN, curls, twisted
from tests.test_courses import CHAIN, some_courses

ONE_PIECE = [drawing for drawing in SAMPLES + REACHED + [CHAIN] + GROWN + LARGE if drawing.is_one_piece]
SEVERAL = [drawing for drawing in SAMPLES + REACHED if not drawing.is_one_piece]
COURSES = [course for drawing in ONE_PIECE for course in some_courses(drawing)[:3]]
WHITEHEAD = Drawing(((0, 1, 2, 3), (4, 2, 5, 6), (7, 0, 8, 9), (9, 8, 3, 4), (6, 5, 1, 7)))


def some_moves(drawing):
    """Some moves of each kind."""
    told = list(each_move(drawing))
    return [move for at, move in enumerate(told) if move[0] not in ("curl", "lap") or at % 23 == 0]


class Webs(unittest.TestCase):
    def test_both_webs_lead_back(self):
        for drawing in ONE_PIECE:
            dark, light = dark_of(drawing), light_of(drawing)
            self.assertEqual((drawing_of(dark), drawing_of(light)), (drawing.numbered, drawing.numbered))
            self.assertEqual((dark.dual, light.dual, dark.dual.dual), (light, dark, dark))
            self.assertEqual((dark.web.bridges, dark.web.loops), (light.web.loops, light.web.bridges))
            self.assertEqual([len(dark), len(light)], [len(light.faces), len(dark.faces)])
            self.assertEqual(dark.signs, tuple(-sign for sign in light.signs))
            trees = [tuple(tie for tie in range(len(drawing)) if tie not in tree) for tree in each_tree(light.web)]
            self.assertEqual(list(each_tree(dark.web)), sorted(trees))

    def test_brackets(self):
        for drawing in ONE_PIECE:
            told, order = bracket(drawing), tuple(range(len(drawing)))[::-1]
            self.assertEqual(told.terms, plain_bracket(drawing.crossings, drawing.rings))
            for web in (dark_of(drawing).web, light_of(drawing).web):
                self.assertEqual((bracket_by_striking(web), bracket_by_trees(web)), (told, told))
                self.assertEqual((bracket_by_trees(web, order=order), row_of_paper(web, tree_paper(web, order))), (told, told))
                if len(drawing) < 8:
                    self.assertEqual(bracket_by_sets(web), told)

    def test_brackets_by_a_relation(self):
        for drawing in ONE_PIECE + SEVERAL:
            for at in range(0, len(drawing), 4):
                zero, one = relation(drawing, at)
                self.assertEqual(bracket(drawing), zero.shifted(1) + one.shifted(-1))
                if drawing.rings < 8:
                    self.assertEqual((bracket(smoothed(drawing, at, 0)), bracket(smoothed(drawing, at, 1))), (zero, one))


class Moves(unittest.TestCase):
    def test_no_move_changes_what_is_kept(self):
        for drawing in [drawing for drawing in ONE_PIECE[:25] + SEVERAL if len(drawing) < 7]:
            kept = (bare_row(drawing), kept_rows(drawing), orders_of(drawing), least_crossings(drawing), drawing.many_strings,
                    [count_colourings(drawing, many) for many in (2, 3, 5, 12)], switches_at_least(drawing))
            rows = sorted(str(conway_row(course)) for course in some_courses(drawing))
            for move in some_moves(drawing):
                behind = moved(drawing, move)
                self.assertEqual((bare_row(behind), kept_rows(behind), orders_of(behind), least_crossings(behind),
                                  behind.many_strings, [count_colourings(behind, many) for many in (2, 3, 5, 12)],
                                  switches_at_least(behind)), kept)
                if len(drawing.strings) == len(behind.strings) < 4:
                    self.assertEqual(sorted(str(conway_row(course)) for course in some_courses(behind)), rows)
                back = back_move(drawing, move)
                self.assertIs(is_move(behind, back), True)
                self.assertIsNotNone(matching(moved(behind, back), drawing))

    def test_rows_of_moves(self):
        for start in (KNOT, LINKED, EIGHT, WHITEHEAD, Drawing(twisted(4))):
            bench, told = Bench(start), Course(start)
            bench.demand(("row", str(bare_row(start))))
            bench.demand(("strings", start.many_strings))
            bench.demand(("determinant", determinant(start)))
            bench.demand(("colours", 6, count_colourings(start, 6)))
            signatures = sorted(signature(course) for course in some_courses(start))
            for number in range(10):
                moves = [move for move in bench.moves() if len(moved(bench.drawing, move)) < 9]
                wanted = [move for move in moves if move[0] in ("slide", "unlap", "uncurl")]
                moves = wanted or moves
                bench.move(moves[(number * 41 + 7) % len(moves)])
                if bench.drawing.is_one_piece:
                    courses = some_courses(bench.drawing)
                    self.assertEqual(sorted(signature(course) for course in courses), signatures)
                    self.assertIn(conway_row(told), [alexander_to_conway(course) for course in courses])
            self.assertEqual(bench.undo(many=10)[2], 0)
            self.assertEqual(bench.drawing, start)


def alexander_to_conway(course):
    """The Conway row by the relation, when it leads to Alexander's row."""
    row = conway_by_relation(course)
    return row if in_powers(row) == alexander_row(course) else None


class Kept(unittest.TestCase):
    def test_ways_to_the_kept_row(self):
        for course in COURSES:
            row = kept_row(course)
            self.assertEqual(kept_by_trees(course), row)
            self.assertEqual(row, bracket(course.drawing) * kept_row(Course(RING)).shifted(-3 * course.winding)
                             * (-1 if course.winding % 2 else 1))
            self.assertEqual(row.at(1), (-2) ** (course.drawing.many_strings - 1))
            self.assertIn(row, kept_rows(course.drawing))

    def test_three_courses(self):
        for course in COURSES[::2]:
            at = len(course) // 2
            plus, minus, smooth = relation_rows(course, at)
            self.assertEqual(plus.shifted(4) - minus.shifted(-4), smooth.shifted(-2) - smooth.shifted(2))
            rows = [conway_row(other) for other in (course, course.switched(at), course.smoothed(at))]
            self.assertEqual((rows[0] - rows[1]) * course.signs[at], rows[2].shifted(1))


class Fewest(unittest.TestCase):
    def test_spans(self):
        for drawing in ONE_PIECE:
            span, web = bracket(drawing).span, dark_of(drawing).web
            self.assertLessEqual(span, 4 * len(drawing) - 4 * turning_number(drawing))
            alike = all(len({web.signs[tie] for tie in block}) == 1 for block in web.blocks)
            self.assertIs(blocks_alike(drawing), alike)
            self.assertIs(span == 4 * len(drawing), alike and not web.bridges and not web.loops)
            self.assertIs(is_long(drawing), span == 4 * len(drawing))
            self.assertIs(sum(pure_circles(drawing)) == len(drawing) + 2, alike)
            self.assertIs(is_alternate(drawing), len(set(web.signs)) == 1)
            if is_long(drawing):
                self.assertEqual(least_crossings(drawing), len(drawing))
                self.assertGreater(determinant(drawing), 0)


class Groups(unittest.TestCase):
    def test_one_class_group(self):
        for drawing in ONE_PIECE:
            dark, light = dark_of(drawing).web, light_of(drawing).web
            self.assertEqual((class_orders(dark), class_orders(light)), (orders_of(drawing),) * 2)
            self.assertEqual((abs(signed_count(dark)), abs(signed_count(light))), (determinant(drawing),) * 2)
            for web in (dark, light):
                self.assertIs(is_shortening(table_of(web), shortening(table_of(web))), True)

    def test_colourings(self):
        for drawing in ONE_PIECE + SEVERAL:
            for many in (2, 3, 5, 7, 9, 15):
                told = count_colourings(drawing, many)
                if told <= 800:
                    self.assertEqual(len(list(each_colouring(drawing, many))), told)


class Pairings(unittest.TestCase):
    def test_as_many_as_trees(self):
        for drawing in ONE_PIECE:
            web = dark_of(drawing).web
            for strand in (0, len(drawing), 2 * len(drawing) - 1):
                pairings = list(each_pairing(drawing, strand))
                self.assertEqual(sorted(tree_of(drawing, strand, pairing) for pairing in pairings), list(each_tree(web)))
                self.assertEqual(len(pairings), count_trees(light_of(drawing).web))

    def test_turns_lead_from_the_lowest_to_the_highest(self):
        for drawing in ONE_PIECE[::2]:
            strand = len(drawing) - 1
            here, way = lowest(drawing, strand), []
            while clock_turns(drawing, strand, here):
                way.append(clock_turns(drawing, strand, here)[-1])
                here = turned(drawing, strand, here, way[-1])
            self.assertEqual(here, highest(drawing, strand))
            self.assertIs(is_way_up(drawing, strand, here, tuple(way)), True)
            self.assertEqual(len(way_up(drawing, strand, here)), len(way))


class Alexander(unittest.TestCase):
    def test_ways_to_the_row(self):
        for course in COURSES:
            row = alexander_row(course)
            self.assertEqual(alexander_row(course, strand=2 * len(course) - 1), row)
            self.assertEqual(in_powers(conway_by_relation(course)), row)
            self.assertEqual(conway_row(course), conway_by_relation(course))
            self.assertEqual(determinant_told(conway_row(course)), determinant(course.drawing))

    def test_signatures(self):
        for course in COURSES:
            told = signature(course)
            self.assertEqual((signature(course, light=True), signature(course.turned_round)), (told, told))
            dark = dark_of(course.drawing).web
            self.assertLessEqual(abs(told + plain_signature_of(table_of(dark))), len(course))
            # Both parities go together, where the determinant is not 0.
            if determinant(course.drawing):
                self.assertEqual(told % 2, (course.drawing.many_strings + 1) % 2)

    def test_courses_that_go_down(self):
        for course in COURSES:
            down = course
            for at in going_down(course):
                down = down.switched(at)
            self.assertEqual(conway_row(down).terms, {0: 1} if course.drawing.many_strings == 1 else {})
            self.assertLessEqual(2 * len(apart_by(course)), len(course))
            self.assertLessEqual(switches_at_least(course.drawing), len(apart_by(course)))


class NotTrue(unittest.TestCase):
    """[0.20]: each of these has a drawing that shows that it is not so."""

    def test_first_moves_change_the_bracket(self):
        for way in range(4):
            self.assertNotEqual(bracket(moved(RING, ("curl ring", way))), bracket(RING))

    def test_a_long_drawing_that_is_not_alternate(self):
        drawing = summed(KNOT, 0, KNOT.mirror, 0, crossed=True)
        self.assertEqual((is_long(drawing), is_alternate(drawing)), (True, False))

    def test_strings_that_do_not_come_apart(self):
        self.assertEqual((switches_at_least(WHITEHEAD), str(conway_row(Course(WHITEHEAD)))), (0, "x^3"))
        self.assertIs(are_told_apart(WHITEHEAD, Drawing(rings=2)), True)

    def test_signs_of_ties_tell(self):
        one, other = Web(2, ((0, 1, 1),) * 3), Web(2, ((0, 1, 1), (0, 1, 1), (0, 1, -1)))
        self.assertEqual(list(each_tree(one)), list(each_tree(other)))
        self.assertNotEqual(bracket_by_trees(one), bracket_by_trees(other))

    def test_equally_many_colourings(self):
        for many in range(1, 30):
            self.assertEqual(count_colourings(KNOT, many), count_colourings(KNOT.mirror, many))
        self.assertIs(are_told_apart(KNOT, KNOT.mirror), True)

    def test_fewer_crossings_with_more_trees(self):
        drawings = (EIGHT, Drawing(curls(1)), summed(KNOT, 0, CURL, 0), NINE)
        trees = [count_trees(dark_of(drawing).web) for drawing in drawings]
        self.assertEqual(trees, [5, 1, 3, 9])
        self.assertGreater(trees[0], count_trees(dark_of(Drawing(twisted(4))).web))
        five = grown(3, 5, 1.0)
        self.assertEqual((len(five), count_trees(dark_of(five).web)), (5, 1))
        self.assertLess(len(KNOT), len(five))

    def test_equal_kept_rows_of_other_strings(self):
        linked = summed(LINKED, 0, KNOT, 0)
        with_both = [summed(linked, strand, EIGHT, 0) for strand in range(len(linked.strands))]
        rows = {str(bare_row(drawing)) for drawing in with_both}
        self.assertEqual(len(rows), 1)
        # The strings themselves are others: one has both knots, or each has one of them.
        told = {tuple(sorted(sum(drawing.string_at((at, 0)) == drawing.string_at((at, 1)) == string for at in range(9))
                             for string in (0, 1))) for drawing in with_both}
        self.assertEqual(told, {(0, 7), (3, 4)})


class Pieces(unittest.TestCase):
    def test_pieces_put_apart(self):
        for drawing in SEVERAL:
            if drawing.pieces:
                told = piece_at(drawing, 0)
                for index in range(1, len(drawing.pieces)):
                    told = apart(told, piece_at(drawing, index))
                told = Drawing(told.crossings, rings=drawing.rings)
                self.assertIsNotNone(matching(told, drawing))
                self.assertEqual((bare_row(told), kept_rows(told), orders_of(told)),
                                 (bare_row(drawing), kept_rows(drawing), orders_of(drawing)))
        self.assertEqual([conway_row(Course(some)).terms for some in (TWO_PIECES, WOVEN)], [{}, {}])


if __name__ == "__main__":
    unittest.main()
