"""Rows of webs: stage 10, [0.14], and [0.1] to [0.5] as far as they reach it."""

import inspect
import unittest

from crosswebs.base.rows import Row
from crosswebs.bracket import striking
from crosswebs.bracket.smoothings import bracket
from crosswebs.bracket.striking import bracket_by_sets, bracket_by_striking, relation
from crosswebs.draw.drawings import Drawing
from crosswebs.errors import InvalidDrawing, InvalidNumber, InvalidWeb
from crosswebs.webs.shades import dark_of, light_of
from crosswebs.webs.webs import Web
from tests.plain_brackets import circles_to, plain_bracket, plain_row_of_web
from tests.refusals import check_arguments, check_refused, wrong_but, wrong_indices
from tests.samples import CURL, EIGHT, KNOT, REACHED, RING, SAMPLES, SMALL, TINY_WEBS, TWO_PIECES, WEBS, WRONG, curls
from tests.test_smoothings import plain_smoothed

CIRCLE = Row({-2: -1, 2: -1})
ALL = WEBS + TINY_WEBS


def alone(web, ties):
    """The web of some ties and of their places alone."""
    places = sorted({place for tie in ties for place in web.ties[tie][:2]})
    return Web(len(places), tuple((places.index(a), places.index(b), sign) for a, b, sign in [web.ties[tie] for tie in ties]))


class Examples(unittest.TestCase):
    def test_knot(self):
        dark, light = dark_of(KNOT).web, light_of(KNOT).web
        told = [str(bracket_by_sets(dark)), bracket_by_striking(light) == bracket_by_sets(dark),
                [str(one) for one in relation(KNOT, 0)]]
        self.assertEqual(told, ["x^-7 - x^-3 - x^5", True, ["-x^-4 - x^4", "x^-6"]])

    def test_webs(self):
        told = [str(bracket_by_striking(Web(2, ((0, 1, 1),) * 3))), str(bracket_by_sets(Web(1, ((0, 0, 1),)))),
                str(bracket_by_sets(Web(2, ((0, 1, -1),)))), str(bracket_by_striking(Web(3, ())))]
        self.assertEqual(told, ["-x^-5 - x^3 + x^7", "-x^3", "-x^3", "x^-4 + 2 + x^4"])


class Webs(unittest.TestCase):
    def test_sums_over_all_choices(self):
        for web in ALL:
            told = plain_row_of_web(web.many, web.ties)
            for row in (bracket_by_sets(web), bracket_by_striking(web)):
                self.assertIs(type(row), Row)
                self.assertEqual(row.terms, told)
        for many in range(1, 11):
            for function in (bracket_by_sets, bracket_by_striking):
                self.assertEqual(function(Web(many, ())).terms, circles_to(many - 1))

    def test_brackets_of_drawings(self):
        for drawing in SAMPLES + REACHED + SMALL[::15]:
            if drawing.is_one_piece:
                for shade in (dark_of(drawing), light_of(drawing)):
                    for function in (bracket_by_sets, bracket_by_striking):
                        self.assertEqual(function(shade.web), bracket(drawing))

    def test_whatever_tie_is_taken(self):
        for web in ALL:
            row = bracket_by_sets(web)
            for tie, (a, b, sign) in enumerate(web.ties):
                struck = bracket_by_striking(web.struck(tie))
                if a == b:
                    self.assertEqual(row, -struck.shifted(3 * sign))
                    continue
                drawn = bracket_by_striking(web.drawn_together(tie))
                self.assertEqual(row, drawn.shifted(sign) + struck.shifted(-sign))
                if tie in web.bridges:
                    self.assertEqual(row, -drawn.shifted(-3 * sign))

    def test_ties_in_another_order(self):
        for web in WEBS:
            for ties in (web.ties[::-1], web.ties[4:] + web.ties[:4], tuple((b, a, sign) for a, b, sign in web.ties)):
                for function in (bracket_by_sets, bracket_by_striking):
                    self.assertEqual(function(Web(web.many, ties)), bracket_by_sets(web))

    def test_lots_and_blocks(self):
        for web in ALL:
            row = CIRCLE.raised(len(web.lots) - 1)
            for block in web.blocks:
                row = row * bracket_by_striking(alone(web, block))
            self.assertEqual(bracket_by_sets(web), row)
            turned = web.with_signs(tuple(-sign for sign in web.signs))
            self.assertEqual(bracket_by_striking(turned), bracket_by_striking(web).turned)

    def test_refused(self):
        for function in (bracket_by_sets, bracket_by_striking):
            check_arguments(self, function, ([WEBS[0]], wrong_but(Web) + [dark_of(KNOT), KNOT, WEBS[0].ties], InvalidWeb))
            self.assertEqual((function.__module__, str(inspect.signature(function))), (striking.__name__, "(web)"))

    def test_nothing_is_changed(self):
        for web in WEBS[:3]:
            many, ties = web.many, web.ties
            self.assertEqual(bracket_by_striking(web), bracket_by_striking(web))
            self.assertEqual((web.many, web.ties), (many, ties))


class Relations(unittest.TestCase):
    def test_brackets_of_both_smoothed_drawings(self):
        for drawing in SAMPLES + REACHED + SMALL[::30]:
            for at in range(0, len(drawing), 1 if len(drawing) < 6 else 4):
                told = relation(drawing, at)
                self.assertEqual([type(told)] + [type(row) for row in told], [tuple, Row, Row])
                self.assertEqual([row.terms for row in told],
                                 [plain_bracket(*plain_smoothed(drawing, at, way)) for way in (0, 1)])
                self.assertEqual(bracket(drawing), told[0].shifted(1) + told[1].shifted(-1))

    def test_more_than_nine_free_rings(self):
        for drawing in (Drawing(CURL.crossings, rings=9), Drawing(CURL.mirror.crossings, rings=8), Drawing(curls(9), rings=9)):
            for at in range(0, len(drawing), 4):
                zero, one = relation(drawing, at)
                self.assertEqual(bracket(drawing), zero.shifted(1) + one.shifted(-1))
        self.assertEqual([row.terms for row in relation(Drawing(CURL.crossings, rings=9), 0)], [circles_to(10), circles_to(9)])

    def test_refused(self):
        for drawing in (EIGHT, Drawing(EIGHT.crossings, rings=9)):
            check_arguments(self, relation, ([drawing], wrong_but(Drawing), InvalidDrawing),
                            ([0], wrong_indices(4), InvalidNumber))
        for value in [0] + WRONG:
            check_refused(self, InvalidNumber, relation, RING, value, kept=value)
        check_refused(self, InvalidNumber, relation, TWO_PIECES, 3, kept=3)
        self.assertEqual((relation.__module__, str(inspect.signature(relation))), (striking.__name__, "(drawing, crossing)"))


if __name__ == "__main__":
    unittest.main()
