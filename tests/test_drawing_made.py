"""What is a drawing and what is none: [0.8], [3.1], [3.2], the errors of Drawing and of Drawing.from_lines."""

import unittest

from crosswebs.draw.drawings import MAX_CROSSINGS, MAX_RINGS, Drawing
from crosswebs.errors import InvalidDrawing, ParseError
from tests.plain import is_flat, tables
from tests.samples import CURL, KNOT, LINKED, NUMBERS, OTHERS, RING, SAMPLES, WOVEN, WRONG, curls, shuffled, twisted


class Made(unittest.TestCase):
    def refuse(self, crossings=(), rings=0):
        with self.assertRaises(InvalidDrawing):
            Drawing(crossings, rings=rings)

    def test_constants(self):
        self.assertEqual((MAX_CROSSINGS, MAX_RINGS), (9, 9))

    def test_what_is_kept(self):
        made = Drawing(KNOT.crossings, rings=4)
        self.assertEqual((made.crossings, made.rings), (((0, 1, 2, 3), (4, 0, 3, 5), (1, 4, 5, 2)), 4))
        self.assertEqual((CURL.rings, RING.crossings, RING.rings), (0, (), 1))
        self.assertEqual(Drawing(crossings=CURL.crossings), CURL)

    def test_no_string_at_all(self):
        self.refuse()
        self.refuse((), 0)
        with self.assertRaises(InvalidDrawing):
            Drawing()

    def test_nine_and_ten_crossings(self):
        for crossings in (curls(9), twisted(9), shuffled(twisted(9))):
            self.assertEqual(Drawing(crossings).crossings, crossings)
        self.refuse(curls(10))
        self.refuse(twisted(10))
        self.refuse(curls(10), 1)

    def test_nine_and_ten_rings(self):
        self.assertEqual(Drawing(rings=9).rings, 9)
        self.assertEqual(Drawing(curls(9), rings=9).rings, 9)
        self.refuse((), 10)
        self.refuse(CURL.crossings, 10)
        self.refuse(CURL.crossings, -1)
        self.refuse((), -1)
        self.refuse(curls(10), 10)

    def test_each_strand_stands_just_twice(self):
        self.refuse(((0, 0, 0, 0),))
        self.refuse(((0, 0, 0, 1),))
        self.refuse(((0, 1, 2, 3),))
        self.refuse(((0, 0, 1, 1), (0, 0, 1, 1)))
        self.refuse(((0, 0, 1, 1), (2, 2, 3, 4)))
        self.refuse(((0, 0, 2, 2),))
        self.refuse(((1, 1, 2, 2),))
        self.refuse(((0, 0, -1, -1),))
        self.refuse(((0, 0, 1, 1), (4, 4, 3, 3)))

    def test_quadruples_are_tuples_of_four(self):
        for crossing in ((), (0, 0), (0, 0, 1), (0, 0, 1, 1, 2), (0, 0, 1, 1, 2, 2), [0, 0, 1, 1], {0: 0, 1: 1}, "0011"):
            self.refuse((crossing,))
        self.refuse(((0, 0, 1), (1,)))
        self.refuse([(0, 0, 1, 1)])
        self.refuse({(0, 0, 1, 1): None})
        self.refuse((0, 0, 1, 1))

    def test_true_is_not_1(self):
        self.refuse(((0, 0, True, True),))
        self.refuse(((0, 0, 1, True),))
        self.refuse(((False, False, 1, 1),))
        self.refuse((), True)
        self.refuse(CURL.crossings, False)
        self.refuse(CURL.crossings, True)

    def test_long_integers(self):
        for number in (10 ** 60 - 1, 10 ** 60, -(10 ** 60), 10 ** 99):
            self.refuse(((0, 0, number, number),))
            self.refuse((), number)
            self.refuse(CURL.crossings, number)

    def test_wrong_values_alone(self):
        for value in OTHERS + NUMBERS:
            self.refuse(value)
            self.refuse(value, 1)
            self.refuse((value,))
            self.refuse((value,), 1)
            self.refuse(CURL.crossings + (value,))
            self.refuse(((0, 0, 1, value),))
            self.refuse((), value)
            self.refuse(CURL.crossings, value)

    def test_wrong_values_together(self):
        for value in WRONG:
            for other in WRONG:
                self.refuse(value, other)
                self.refuse(((0, 0, value, other),), other)

    def test_rings_are_told_by_keyword(self):
        with self.assertRaises(TypeError):
            Drawing(CURL.crossings, 1)

    def test_not_flat(self):
        self.refuse(((0, 1, 0, 1),))
        self.refuse(((0, 1, 0, 1),), 3)
        self.refuse(((0, 1, 2, 3), (0, 1, 2, 3)))
        # One piece is flat, the other one is not, whichever comes first.
        self.refuse(((0, 0, 1, 1), (2, 3, 2, 3)))
        self.refuse(((2, 3, 2, 3), (0, 0, 1, 1)))
        self.refuse(((0, 1, 2, 3), (4, 0, 3, 5), (1, 4, 2, 5)))

    def test_all_tables_of_one_and_two_crossings(self):
        found = {}
        for many in (1, 2):
            for crossings in tables(many):
                try:
                    self.assertEqual(Drawing(crossings).crossings, crossings)
                    made = True
                except InvalidDrawing:
                    made = False
                self.assertIs(made, is_flat(crossings), crossings)
                found[many, made] = found.get((many, made), 0) + 1
        self.assertEqual((found[1, True], found[1, False]), (4, 2))
        self.assertEqual(found[2, True] + found[2, False], 2520)

    def test_it_never_changes(self):
        for name in ("crossings", "rings", "lines", "strands", "pieces", "rims", "strings", "many_strings"):
            with self.assertRaises(AttributeError):
                setattr(KNOT, name, ())


class Lines(unittest.TestCase):
    def refuse(self, index, *lines):
        with self.assertRaises(ParseError) as caught:
            Drawing.from_lines(*lines)
        self.assertIs(type(caught.exception.number), int)
        self.assertEqual(caught.exception.number, index)

    def test_lines_of_crossings_and_rings(self):
        self.assertEqual(Drawing.from_lines("ring"), RING)
        self.assertEqual(Drawing.from_lines("cross 0 1 2 3", "cross 1 0 3 2"), LINKED)
        self.assertEqual(Drawing.from_lines("ring", "cross 0 0 1 1", "ring").lines, ("cross 0 0 1 1", "ring", "ring"))
        self.assertEqual(Drawing.from_lines(*["ring"] * 9).rings, 9)
        self.assertEqual(KNOT.lines, ("cross 0 1 2 3", "cross 4 0 3 5", "cross 1 4 5 2"))
        self.assertEqual(CURL.from_lines("ring"), RING)

    def test_lines_lead_back(self):
        for drawing in SAMPLES:
            self.assertEqual(Drawing.from_lines(*drawing.lines), drawing)
            self.assertEqual(len(drawing.lines), len(drawing) + drawing.rings)

    def test_crossings_keep_their_order(self):
        lines = ("cross 3 0 1 4", "ring", "cross 5 5 2 2", "cross 0 3 4 1")
        self.assertEqual(Drawing.from_lines(*lines).crossings, WOVEN.crossings)

    def test_what_is_no_line(self):
        wrong = (
            "", " ", "ring ", " ring", "Ring", "rings", "ring ring", "ring\n", "ring 1", "cross", "cross ", "cross 0 0 1",
            "cross 0 0 1 1 ", " cross 0 0 1 1", "cross  0 0 1 1", "cross 0 0  1 1", "cross 0 0 1 1 2", "cross 00 0 1 1",
            "cross 0 0 01 1", "cross 0 0 1 100", "cross -1 0 1 1", "cross +0 0 1 1", "cross 0 0 1 1\n", "cross\n0 0 1 1",
            "cross 0,0,1,1", "Cross 0 0 1 1", "CROSS 0 0 1 1", "0 0 1 1", "crossing 0 0 1 1", "cross 0 0 1 x", "cross 0 0 1 1_0",
            "cross 0.0 0 1 1", "ring\nring", "cross 0 0 1 1\ncross 2 2 3 3", "cross " + "0" * 60 + " 0 1 1", "cross\t0 0 1 1",
        )
        for line in wrong:
            self.refuse(0, line)
            self.refuse(1, "ring", line)
            self.refuse(2, "cross 0 0 1 1", "ring", line, "ring")

    def test_values_of_other_kinds(self):
        for value in WRONG + ["cross 0 0 1 1".split(" "), ("ring",), ["ring"]]:
            self.refuse(0, value)
            self.refuse(1, "cross 0 0 1 1", value)
            self.refuse(0, value, "ring", value)

    def test_the_first_one_is_told(self):
        self.refuse(1, "ring", "cross 0", "rings", None)
        self.refuse(3, "cross 0 0 1 1", "ring", "cross 2 2 3 3", 7, "x")

    def test_wrong_lines_come_before_wrong_drawings(self):
        self.refuse(1, "cross 0 1 0 1", "rung")
        self.refuse(12, *["ring"] * 12, "rung")
        self.refuse(1, "cross 98 99 98 99", "cross 0 1 2")

    def test_lines_of_no_drawing(self):
        told = (
            (), ("cross 0 1 0 1",), ("cross 98 98 99 99",), ("cross 0 0 1 1", "cross 0 0 1 1"), ("ring",) * 10,
            tuple(f"cross {a} {b} {c} {d}" for a, b, c, d in curls(10)), ("cross 0 1 0 1", "ring"), ("cross 0 0 10 10",),
        )
        for lines in told:
            with self.assertRaises(InvalidDrawing):
                Drawing.from_lines(*lines)

    def test_lists_are_not_changed(self):
        lines = ["cross 0 0 1 1", "ring"]
        Drawing.from_lines(*lines)
        self.assertEqual(lines, ["cross 0 0 1 1", "ring"])


if __name__ == "__main__":
    unittest.main()
