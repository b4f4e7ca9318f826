"""Moves: stage 5, and [0.1] to [0.5] as far as they reach it."""

import inspect
import unittest

from crosswebs.base.rows import Row
from crosswebs.bracket.smoothings import bracket
from crosswebs.draw import moves
from crosswebs.draw.courses import Course
from crosswebs.draw.drawings import Drawing
from crosswebs.draw.joins import apart, is_matching, matching
from crosswebs.draw.moves import back_move, each_move, is_move, moved
from crosswebs.errors import InvalidDrawing, InvalidMove
from tests.grown import GROWN, grown
from tests.plain import all_ends, is_flat
from tests.plain_moves import candidates, plain_moved, plain_moves
from tests.refusals import broken, check_arguments, check_generator, check_judged, check_plain, check_refused, wrong_but
from tests.samples import (CURL, EIGHT, KNOT, LINKED, NINE, REACHED, RING, SAMPLES, SMALL, TWO_PIECES, WRONG, curls,
                           twisted)

NO_DRAWINGS = wrong_but(Drawing)
SLID = REACHED[0]
TWO_CURLS = Drawing(((0, 0, 1, 1), (2, 2, 3, 3)))
SOME = SAMPLES + REACHED + SMALL[::70]

# Drawings of up to seven crossings: in one piece, with free rings, and in several pieces.
WHOLE = [drawing for drawing in GROWN if len(drawing) <= 7] + [grown(seed, 5 + seed % 3, 0.2) for seed in range(40, 52)]
RINGED = [Drawing(drawing.crossings, rings=1 + at % 9) for at, drawing in enumerate(WHOLE[::2])]
PARTED = [apart(grown(seed, 1 + seed % 4), Drawing(grown(seed + 60, 3 - seed % 3).crossings, rings=max(0, seed - 10)))
          for seed in range(20)]
SCATTERED = [apart(one, apart(other, CURL)) for one in (CURL, LINKED, KNOT, SLID) for other in (RING, CURL, LINKED, KNOT)]


def thinned(told):
    """Some of the moves, of each kind, where there are many."""
    return [move for at, move in enumerate(told) if move[0] not in ("curl", "lap") or at % 13 == 0]


def bare(drawing):
    """The row that no move changes: the bracket, less what crossings of strings with themselves add to it."""
    return bracket(drawing) * Row.power(3, many=-1).raised(-sum(Course(drawing).windings))


class Examples(unittest.TestCase):
    def test_curls(self):
        told = [moved(CURL, ("uncurl", (0, 0))) == RING, [moved(RING, ("curl ring", way)).crossings for way in (0, 1)],
                moved(CURL, ("curl", (0, 0), 3)).crossings]
        self.assertEqual(told, [True, [((0, 1, 1, 0),), ((0, 0, 1, 1),)], ((0, 1, 2, 2), (3, 0, 1, 3))])

    def test_laps(self):
        lapped = moved(KNOT, ("lap", (0, 1), (2, 1), 1))
        told = [lapped.crossings, is_move(lapped, ("unlap", (3, 1))), moved(lapped, ("unlap", (3, 1))) == KNOT,
                is_move(KNOT, ("lap", (0, 1), (1, 0), 1))]
        self.assertEqual(told, [((0, 1, 2, 3), (4, 0, 3, 5), (6, 7, 5, 2), (4, 8, 9, 1), (9, 8, 7, 6)), True, True, False])

    def test_slides(self):
        told = [is_move(SLID, ("slide", (0, 1))), moved(SLID, ("slide", (0, 1))).crossings, is_move(SLID, ("slide", (1, 2))),
                moved(SLID) == SLID]
        self.assertEqual(told, [True, ((0, 1, 2, 3), (4, 3, 2, 1), (5, 5, 0, 4)), False, True])

    def test_pieces_and_kinds(self):
        two = TWO_CURLS
        told = [moved(two, ("lap", (0, 2), (1, 2), 1)).crossings, is_move(two, ("lap", (0, 2), (0, 1), 1)),
                is_move(CURL, ("curl", (0, 0), True)), [move[0] for move in each_move(RING)]]
        self.assertEqual(told, [((0, 0, 1, 2), (3, 3, 4, 5), (5, 6, 7, 1), (7, 6, 4, 2)), False, False,
                                ["curl ring", "curl ring", "curl ring", "curl ring"]])
        check_refused(self, InvalidMove, moved, KNOT, ("uncurl", (0, 0)))


class Each(unittest.TestCase):
    def test_all_moves_in_order(self):
        for drawing in SOME:
            told = list(each_move(drawing))
            self.assertEqual(told, sorted(plain_moves(drawing.crossings, drawing.rings)))
            check_plain(self, tuple(told))

    def test_just_what_is_move_takes(self):
        words = set()
        for drawing in WHOLE + RINGED + PARTED + SCATTERED + [Drawing(rings=many) for many in range(1, 10)]:
            self.assertLessEqual(len(drawing), 7)
            told = list(each_move(drawing))
            self.assertEqual(told, [move for move in sorted(candidates(drawing.crossings)) if is_move(drawing, move)])
            self.assertTrue(all(one < other for one, other in zip(told, told[1:])))
            words.update((move[0], len(drawing.pieces) > 1, drawing.rings > 0) for move in told)
        whole = [(word, False, False) for word in ("curl", "lap", "slide", "uncurl", "unlap")]
        parted = [(word, True, ringed) for word in ("curl", "lap", "slide", "uncurl", "unlap") for ringed in (False, True)]
        self.assertLessEqual(set(whole + parted + [("curl ring", False, True), ("curl ring", True, True)]), words)

    def test_just_what_is_move_takes_at_the_limits(self):
        for drawing in [drawing for drawing in SOME + GROWN if len(drawing) > 7 or drawing.rings == 9]:
            told = list(each_move(drawing))
            self.assertEqual(told, [move for move in sorted(candidates(drawing.crossings)) if is_move(drawing, move)])

    def test_what_is_no_move(self):
        for drawing in SAMPLES[:8] + REACHED[:7] + SMALL[::300]:
            for move in candidates(drawing.crossings):
                right = plain_moved(drawing.crossings, drawing.rings, move) is not None
                self.assertIs(is_move(drawing, move), right)
                if not right:
                    check_refused(self, InvalidMove, moved, drawing, move)

    def test_numbers_of_moves(self):
        def count(drawing):
            words = [move[0] for move in each_move(drawing)]
            return [words.count(word) for word in ("curl", "curl ring", "lap", "slide", "uncurl", "unlap")]

        self.assertEqual([count(some) for some in (RING, CURL, LINKED, KNOT, EIGHT, NINE)], [
            [0, 4, 0, 0, 0, 0], [16, 0, 4, 0, 2, 0], [32, 0, 16, 0, 0, 0], [48, 0, 36, 0, 0, 0], [64, 0, 56, 0, 0, 0], [0] * 6])
        self.assertEqual(count(Drawing(rings=9)), [0, 4, 0, 0, 0, 0])
        self.assertEqual(count(Drawing(CURL.crossings, rings=8)), [16, 4, 4, 0, 2, 0])
        self.assertEqual(count(Drawing(CURL.crossings, rings=9)), [16, 4, 4, 0, 0, 0])
        self.assertEqual(count(Drawing(curls(2), rings=9)), [32, 4, 72, 0, 0, 0])
        self.assertEqual(count(Drawing(curls(9))), [0, 0, 0, 0, 18, 0])
        self.assertEqual(count(Drawing(curls(9), rings=9)), [0, 0, 0, 0, 0, 0])
        self.assertEqual(count(Drawing(twisted(8), rings=1))[:3], [128, 4, 0])
        self.assertEqual(count(Drawing(twisted(7)))[:3], [112, 0, 7 * 4 + 2 * 84])
        self.assertEqual(count(SLID), [48, 0, 44, 1, 1, 0])

    def test_one_by_one(self):
        made = each_move(KNOT)
        self.assertEqual([next(made), next(made)], [("curl", (0, 0), 0), ("curl", (0, 0), 1)])
        self.assertEqual(list(each_move(KNOT)), list(each_move(KNOT)))

    def test_refused(self):
        check_generator(self, each_move, ([RING], NO_DRAWINGS, InvalidDrawing))


class Judged(unittest.TestCase):
    def test_values_like_moves(self):
        for drawing in (RING, CURL, SLID, TWO_CURLS, Drawing(CURL.crossings, rings=1), REACHED[4]):
            rights = list(each_move(drawing))
            texts = {str(right) for right in rights}
            for move in rights[::5] + [move for move in rights if move[0] in ("slide", "uncurl", "unlap", "curl ring")]:
                for value in broken(move):
                    if str(value) not in texts:
                        self.assertIs(is_move(drawing, value), False, value)
                        check_refused(self, InvalidMove, moved, drawing, value)
                        check_refused(self, InvalidMove, back_move, drawing, value)

    def test_wrong_values(self):
        check_judged(self, lambda value: is_move(RING, value), [("curl ring", way) for way in range(4)],
                     [(), ("curl",), ("curl ring",), ("curl ring", 4), ("curl ring", 0, 0), ("curl", (0, 0), 0),
                      ("uncurl", (0, 0))])
        for value in WRONG:
            for move in ((value,), (value, (0, 0)), ("curl", value, 0), ("curl", (0, 0), value), ("curl", (value, 0), 0),
                         ("curl", (0, value), 0), ("lap", value, (0, 1), 0), ("lap", (0, 0), value, 0),
                         ("lap", (0, 2), (0, 0), value),
                         ("uncurl", value), ("unlap", value), ("slide", value), ("curl ring", value), ("uncurl", (value, 2)),
                         ("curl", (0, 0), 0, value), ("uncurl", (0, 0), value), ("curl", value), ("lap", value), (0, value)):
                for drawing in (CURL, TWO_PIECES, RING):
                    self.assertIs(is_move(drawing, move), False, move)

    def test_edges_of_numbers(self):
        for move in (("curl", (0, 0), 4), ("curl", (0, 0), -1), ("curl", (0, 4), 0), ("curl", (1, 0), 0), ("curl ring", 0),
                     ("lap", (0, 2), (0, 0), 2), ("lap", (0, 2), (0, 0), -1), ("lap", (0, 0), (0, 0), 0),
                     ("lap", (0, 0), (0, 1), 0),
                     ("uncurl", (0, 1)), ("uncurl", (0, 3)), ("uncurl", (0, 4)), ("uncurl", (1, 0)), ("slide", (0, 0)),
                     ("unlap", (0, 0))):
            self.assertIs(is_move(CURL, move), False, move)
        for value in (False, True, 2):
            self.assertIs(is_move(CURL, ("curl", (0, 0), value)), value == 2 and value is not True)

    def test_refused(self):
        rights = [("curl ring", 0), None, "x"]
        for right in rights:
            check_arguments(self, lambda drawing: is_move(drawing, right), ([RING], NO_DRAWINGS, InvalidDrawing))
            check_arguments(self, lambda drawing: moved(drawing, right), ([RING], NO_DRAWINGS, InvalidDrawing))
        check_arguments(self, moved, ([RING], NO_DRAWINGS, InvalidDrawing))
        check_arguments(self, moved, ([RING, KNOT], NO_DRAWINGS, InvalidDrawing), ([("curl ring", 0)], WRONG, InvalidMove))
        check_arguments(self, moved, ([RING], NO_DRAWINGS, InvalidDrawing), ([("curl ring", 1)], WRONG, InvalidMove),
                        ([("curl", (0, 0), 0)], WRONG, InvalidMove), ([("uncurl", (0, 2))], WRONG, InvalidMove))
        check_arguments(self, back_move, ([RING], NO_DRAWINGS, InvalidDrawing), ([("curl ring", 0)], WRONG, InvalidMove))

    def test_defined_here(self):
        for function, told in ((each_move, "(drawing)"), (is_move, "(drawing, value)"), (moved, "(drawing, *moves)"),
                               (back_move, "(drawing, move)")):
            self.assertEqual((function.__module__, str(inspect.signature(function))), (moves.__name__, told))


class Behind(unittest.TestCase):
    def test_drawings_behind_moves(self):
        for drawing in SOME:
            for move, (crossings, rings) in plain_moves(drawing.crossings, drawing.rings).items():
                behind = moved(drawing, move)
                self.assertEqual((behind.crossings, behind.rings), (crossings, rings), (drawing.lines, move))
                self.assertTrue(is_flat(crossings))

    def test_what_is_told_of_drawings_behind_moves(self):
        for drawing in REACHED + PARTED:
            for move in thinned(list(each_move(drawing))):
                behind = moved(drawing, move)
                same = Drawing(behind.crossings, rings=behind.rings)
                self.assertEqual((behind, behind.lines, str(behind)), (same, same.lines, str(same)))
                self.assertEqual((behind.strands, behind.pieces, behind.rims, behind.strings),
                                 (same.strands, same.pieces, same.rims, same.strings))
                self.assertEqual((behind.many_strings, behind.is_one_piece), (same.many_strings, same.is_one_piece))
                self.assertEqual([behind.partner(end) for end in all_ends(behind.crossings)],
                                 [same.partner(end) for end in all_ends(same.crossings)])

    def test_what_moves_change_and_keep(self):
        change = {"curl": 1, "curl ring": 1, "uncurl": -1, "lap": 2, "unlap": -2, "slide": 0}
        for drawing in SOME:
            row = bare(drawing)
            for move in thinned(list(each_move(drawing))):
                behind = moved(drawing, move)
                self.assertEqual(len(behind) - len(drawing), change[move[0]])
                self.assertEqual((behind.many_strings, behind.numbered), (drawing.many_strings, behind))
                self.assertEqual(bare(behind), row)

    def test_rows_of_moves(self):
        row = (("curl ring", 2), ("curl", (0, 3), 1), ("lap", (0, 3), (1, 1), 0))
        here = RING
        for move in row:
            self.assertTrue(is_move(here, move))
            here = moved(here, move)
        self.assertEqual(moved(RING, *row), here)
        self.assertEqual(moved(moved(RING, row[0]), *row[1:]), here)
        self.assertEqual((len(here), RING.crossings), (4, ()))
        for wrong in (row + row, row[::-1], row[1:], row[:1] + row[2:] + row[2:], row + (None,), (("uncurl", (0, 0)),) + row):
            check_refused(self, InvalidMove, moved, RING, *wrong)

    def test_no_moves(self):
        for drawing in SAMPLES + REACHED:
            self.assertEqual(moved(drawing), drawing)
        self.assertNotEqual(moved(REACHED[2]), REACHED[2].numbered)

    def test_each_move_is_asked_of_the_drawing_that_is_there_then(self):
        check_refused(self, InvalidMove, moved, CURL, ("uncurl", (0, 0)), ("uncurl", (0, 0)))
        self.assertEqual(moved(CURL, ("uncurl", (0, 0)), ("curl ring", 1)), CURL)
        nine = moved(Drawing(twisted(8)), ("curl", (7, 3), 2))
        self.assertEqual(len(nine), 9)
        check_refused(self, InvalidMove, moved, nine, ("curl", (0, 0), 0))
        check_refused(self, InvalidMove, moved, Drawing(twisted(8)), ("curl", (7, 3), 2), ("curl", (7, 3), 2))
        check_refused(self, InvalidMove, moved, Drawing(CURL.crossings, rings=9), ("uncurl", (0, 0)))
        self.assertEqual(moved(Drawing(CURL.crossings, rings=8), ("uncurl", (0, 0))), Drawing(rings=9))
        self.assertEqual(moved(Drawing(CURL.crossings, rings=9), ("curl ring", 1), ("uncurl", (0, 0))).rings, 9)

    def test_a_slide_of_each_kind_of_strand(self):
        slid = [(drawing, move) for drawing in REACHED for move in each_move(drawing) if move[0] == "slide"]
        self.assertGreater(len(slid), 25)
        for drawing, move in slid:
            self.assertEqual([len(rim) for rim in (drawing.rim_at(move[1]),)], [3])
            behind = moved(drawing, move)
            back = ("slide", min((at, (number + 2) % 4) for at, number in drawing.rim_at(move[1])))
            self.assertEqual(moved(behind, back), drawing.numbered)

    def test_arguments_are_not_changed(self):
        crossings, rings = REACHED[1].crossings, REACHED[1].rings
        for move in thinned(list(each_move(REACHED[1]))):
            self.assertEqual(moved(REACHED[1], move), moved(REACHED[1], move))
            self.assertEqual(back_move(REACHED[1], move), back_move(REACHED[1], move))
        self.assertEqual((REACHED[1].crossings, REACHED[1].rings), (crossings, rings))


class Back(unittest.TestCase):
    def test_a_move_back_for_each_move(self):
        words = {"curl": ("uncurl",), "curl ring": ("uncurl",), "uncurl": ("curl", "curl ring"), "lap": ("unlap",),
                 "unlap": ("lap",), "slide": ("slide",)}
        for drawing in SOME:
            for move in thinned(list(each_move(drawing))):
                behind, back = moved(drawing, move), back_move(drawing, move)
                check_plain(self, back)
                self.assertIn(back[0], words[move[0]])
                self.assertIs(is_move(behind, back), True)
                again = moved(behind, back)
                self.assertIs(is_matching(again, drawing, matching(again, drawing)), True)

    def test_back_at_the_limits(self):
        for drawing in (Drawing(rings=9), Drawing(CURL.crossings, rings=8), Drawing(curls(9)), Drawing(curls(8), rings=9),
                        Drawing(twisted(8)), REACHED[7], REACHED[12], REACHED[13]):
            for move in each_move(drawing):
                again = moved(drawing, move, back_move(drawing, move))
                self.assertIsNotNone(matching(again, drawing))

    def test_pieces_that_come_apart(self):
        lapped = moved(TWO_CURLS, ("lap", (0, 2), (1, 2), 1))
        self.assertEqual(len(lapped.pieces), 1)
        for drawing in (lapped, moved(Drawing(KNOT.crossings + ((6, 6, 7, 7),)), ("lap", (1, 2), (3, 0), 0))):
            (move,) = [move for move in each_move(drawing) if move[0] == "unlap"]
            self.assertEqual(len(moved(drawing, move).pieces), 2)
            self.assertEqual(matching(moved(drawing, move, back_move(drawing, move)), drawing) is None, False)

    def test_ends_of_strands_at_one_crossing(self):
        for end in all_ends(CURL.crossings):
            for way in range(4):
                behind = moved(CURL, ("curl", end, way))
                self.assertEqual((len(behind), behind.many_strings), (2, 1))
                self.assertIsNotNone(matching(moved(behind, back_move(CURL, ("curl", end, way))), CURL))
        # Both strands of CURL have both ends at its crossing.
        told = [move for move in each_move(CURL) if move[0] == "lap"]
        self.assertEqual(told, [("lap", (0, 0), (0, 2), 0), ("lap", (0, 0), (0, 2), 1), ("lap", (0, 2), (0, 0), 0),
                                ("lap", (0, 2), (0, 0), 1)])
        for move in told:
            behind = moved(CURL, move)
            self.assertEqual((len(behind), behind.many_strings), (3, 1))
            self.assertIsNotNone(matching(moved(behind, back_move(CURL, move)), CURL))


if __name__ == "__main__":
    unittest.main()
