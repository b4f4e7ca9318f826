"""What a drawing tells: stage 3, and [0.2], [0.8], [0.9]."""

import inspect
import unittest

from crosswebs.draw import drawings
from crosswebs.draw.drawings import Drawing
from crosswebs.errors import InvalidDrawing, InvalidEnd
from tests.plain import all_ends, is_flat, joined_ends, piece_classes, rim_classes, string_classes, tables
from tests.samples import (CURL, EIGHT, KNOT, LINKED, NINE, NUMBERS, OTHERS, RING, SAMPLES, TWO_PIECES, WOVEN, WRONG,
                           curls, shuffled, twisted)

SMALL = [Drawing(crossings) for many in (1, 2) for crossings in tables(many) if is_flat(crossings)]


def opposite(end):
    return (end[0], (end[1] + 2) % 4)


class Examples(unittest.TestCase):
    def test_tables_of_the_examples(self):
        told = [KNOT.strands[:2], KNOT.rims, KNOT.strings, KNOT.many_strings, str(LINKED)]
        self.assertEqual(told, [
            (((0, 0), (1, 1)), ((0, 1), (2, 0))),
            (((0, 0), (2, 0), (1, 0)), ((0, 1), (2, 3)), ((0, 2), (1, 2), (2, 2)), ((0, 3), (1, 1)), ((1, 3), (2, 1))),
            (((0, 0), (2, 3), (1, 0), (0, 3), (2, 0), (1, 3)),), 1, "drawing of 2 crossings, 2 strings, 0 rings"])

    def test_methods_and_other_drawings(self):
        told = [LINKED.strings, LINKED.mirror.crossings, LINKED.behind.crossings, KNOT.partner((1, 3)),
                KNOT.opposite((1, 3)), CURL.rim_at((0, 3))]
        self.assertEqual(told, [
            (((0, 0), (1, 3)), ((0, 1), (1, 2))), ((1, 2, 3, 0), (0, 3, 2, 1)), ((1, 0, 3, 2), (0, 1, 2, 3)), (2, 2),
            (1, 1), ((0, 1), (0, 3))])

    def test_lines(self):
        some = Drawing.from_lines("ring", "cross 1 1 0 0", "ring")
        told = [some.crossings, some.rings, some.numbered == Drawing(CURL.crossings, rings=2), some.many_strings,
                some.is_one_piece, CURL.is_one_piece, some.lines]
        self.assertEqual(told, [((1, 1, 0, 0),), 2, True, 3, False, True, ("cross 1 1 0 0", "ring", "ring")])

    def test_not_flat(self):
        with self.assertRaises(InvalidDrawing):
            Drawing(((0, 1, 0, 1),))

    def test_named_drawings(self):
        told = [(len(some), some.many_strings, len(some.rims)) for some in (RING, CURL, LINKED, KNOT, EIGHT)]
        self.assertEqual(told, [(0, 1, 0), (1, 1, 3), (2, 2, 4), (3, 1, 5), (4, 1, 6)])


class Tables(unittest.TestCase):
    def test_strands(self):
        for drawing in SAMPLES + SMALL:
            self.assertEqual(len(drawing.strands), 2 * len(drawing))
            for strand, (one, other) in enumerate(drawing.strands):
                self.assertLess(one, other)
                for i, p in (one, other):
                    self.assertEqual(drawing.crossings[i][p], strand)
        self.assertEqual(CURL.strands, (((0, 0), (0, 1)), ((0, 2), (0, 3))))
        self.assertEqual(Drawing(((1, 1, 0, 0),)).strands, (((0, 2), (0, 3)), ((0, 0), (0, 1))))

    def test_pieces(self):
        for drawing in SAMPLES + SMALL:
            self.assertEqual(drawing.pieces, tuple(sorted(tuple(sorted(piece)) for piece in piece_classes(drawing.crossings))))
        self.assertEqual(WOVEN.pieces, ((0, 2), (1,)))
        self.assertEqual(TWO_PIECES.pieces, ((0,), (1, 2)))
        self.assertEqual(Drawing(curls(9)).pieces, tuple((at,) for at in range(9)))

    def test_rims_are_those_that_are_bounded_by_strands(self):
        for drawing in SAMPLES + SMALL:
            self.assertEqual({frozenset(rim) for rim in drawing.rims}, rim_classes(drawing.crossings))
            self.assertEqual(sum(len(rim) for rim in drawing.rims), 4 * len(drawing))
            self.assertEqual(len(drawing.rims), len(drawing) + 2 * len(drawing.pieces))

    def test_rims_are_walked_as_told(self):
        for drawing in SAMPLES + SMALL:
            self.assertEqual(drawing.rims, tuple(sorted(drawing.rims)))
            partner = dict(joined_ends(drawing.crossings) + [pair[::-1] for pair in joined_ends(drawing.crossings)])
            for rim in drawing.rims:
                self.assertEqual(rim[0], min(rim))
                for (j, q), corner in zip(rim, rim[1:] + rim[:1]):
                    self.assertEqual(partner[j, (q + 1) % 4], corner)

    def test_strings_are_those_that_pass_the_ends(self):
        for drawing in SAMPLES + SMALL:
            passed = [frozenset(string) | frozenset(opposite(end) for end in string) for string in drawing.strings]
            self.assertEqual(set(passed), string_classes(drawing.crossings))
            self.assertEqual(sum(len(ends) for ends in passed), 4 * len(drawing))
            self.assertEqual(sum(len(string) for string in drawing.strings), 2 * len(drawing))

    def test_strings_are_told_from_the_least_end_left(self):
        for drawing in SAMPLES + SMALL:
            left = all_ends(drawing.crossings)
            for string in drawing.strings:
                self.assertEqual(string[0], min(left))
                for end, following in zip(string, string[1:] + string[:1]):
                    self.assertEqual(drawing.partner(opposite(end)), following)
                    left.remove(end)
                    left.remove(opposite(end))
            self.assertEqual(left, [])

    def test_numbers_of_strings(self):
        self.assertEqual([Drawing(twisted(many)).many_strings for many in range(1, 10)], [1, 2, 1, 2, 1, 2, 1, 2, 1])
        self.assertEqual((Drawing(rings=9).many_strings, Drawing(rings=9).strings), (9, ()))
        self.assertEqual((Drawing(curls(9), rings=9).many_strings, len(Drawing(curls(9), rings=9).strings)), (18, 9))
        self.assertEqual(TWO_PIECES.many_strings, 4)

    def test_rings_alone(self):
        for many in range(1, 10):
            drawing = Drawing(rings=many)
            self.assertEqual((drawing.crossings, drawing.strands, drawing.pieces, drawing.rims, drawing.strings), ((),) * 5)
            self.assertEqual((drawing.rings, drawing.many_strings, drawing.lines), (many, many, ("ring",) * many))
            self.assertEqual((drawing.numbered, drawing.mirror, drawing.behind), (drawing,) * 3)

    def test_one_piece(self):
        for drawing in (CURL, LINKED, KNOT, EIGHT, NINE, Drawing(((1, 0, 0, 1),))):
            self.assertIs(drawing.is_one_piece, True)
        for drawing in (RING, TWO_PIECES, WOVEN, Drawing(CURL.crossings, rings=1), Drawing(KNOT.crossings, rings=9),
                        Drawing(curls(2)), Drawing(rings=9)):
            self.assertIs(drawing.is_one_piece, False)

    def test_tuples_of_plain_integers_everywhere(self):
        def plain(value):
            if type(value) is tuple:
                return all(plain(part) for part in value)
            return type(value) is int

        for drawing in SAMPLES:
            for value in (drawing.crossings, drawing.strands, drawing.pieces, drawing.rims, drawing.strings):
                self.assertIs(type(value), tuple)
                self.assertTrue(plain(value))
            self.assertIs(type(drawing.lines), tuple)
            self.assertTrue(all(type(line) is str for line in drawing.lines))
            self.assertIs(type(drawing.rings), int)
            self.assertIs(type(drawing.many_strings), int)

    def test_equal_calls_have_equal_results(self):
        for drawing in SAMPLES:
            again = Drawing(drawing.crossings, rings=drawing.rings)
            for name in ("crossings", "rings", "lines", "strands", "pieces", "rims", "strings", "many_strings",
                         "is_one_piece", "numbered", "mirror", "behind"):
                self.assertEqual(getattr(drawing, name), getattr(drawing, name))
                self.assertEqual(getattr(drawing, name), getattr(again, name))


class OtherDrawings(unittest.TestCase):
    def test_numbered(self):
        for drawing in SAMPLES + SMALL:
            told = [strand for crossing in drawing.numbered.crossings for strand in crossing]
            self.assertEqual(sorted(set(told), key=told.index), list(range(2 * len(drawing))))
            self.assertEqual(set(joined_ends(drawing.numbered.crossings)), set(joined_ends(drawing.crossings)))
            self.assertEqual(drawing.numbered.numbered, drawing.numbered)
            self.assertEqual(drawing.numbered.rings, drawing.rings)
        self.assertEqual(WOVEN.numbered.crossings, ((0, 1, 2, 3), (4, 4, 5, 5), (1, 0, 3, 2)))
        self.assertEqual([some.numbered for some in (RING, CURL, LINKED, KNOT, EIGHT)], [RING, CURL, LINKED, KNOT, EIGHT])

    def test_mirror(self):
        for drawing in SAMPLES + SMALL:
            self.assertEqual(drawing.mirror.crossings, tuple((b, c, d, a) for a, b, c, d in drawing.crossings))
            self.assertEqual(drawing.mirror.mirror.crossings, tuple((c, d, a, b) for a, b, c, d in drawing.crossings))
        self.assertEqual(KNOT.mirror.crossings, ((1, 2, 3, 0), (0, 3, 5, 4), (4, 5, 2, 1)))

    def test_behind(self):
        for drawing in SAMPLES + SMALL:
            self.assertEqual(drawing.behind.crossings, tuple((b, a, d, c) for a, b, c, d in drawing.crossings))
            self.assertEqual(drawing.behind.behind, drawing)
        self.assertEqual(KNOT.behind.crossings, ((1, 0, 3, 2), (0, 4, 5, 3), (4, 1, 2, 5)))

    def test_both_keep_the_numbers_of_all(self):
        for drawing in SAMPLES + SMALL:
            for other in (drawing.mirror, drawing.behind, drawing.numbered):
                self.assertIs(type(other), Drawing)
                self.assertEqual((len(other.rims), other.pieces, len(other.strings), other.rings, other.many_strings),
                                 (len(drawing.rims), drawing.pieces, len(drawing.strings), drawing.rings,
                                  drawing.many_strings))

    def test_all_strings_together_pass_each_crossing_twice(self):
        for drawing in SAMPLES + SMALL:
            passed = [i for string in drawing.strings for i, _ in string]
            self.assertEqual(sorted(passed), sorted(list(range(len(drawing))) * 2))

    def test_the_drawing_itself_stays(self):
        crossings = shuffled(twisted(5))
        drawing = Drawing(crossings, rings=2)
        self.assertNotEqual(drawing.numbered, drawing)
        self.assertNotEqual(drawing.mirror, drawing)
        self.assertNotEqual(drawing.behind, drawing)
        self.assertEqual((drawing.crossings, drawing.rings), (shuffled(twisted(5)), 2))


class Ends(unittest.TestCase):
    def methods(self, drawing):
        return (drawing.partner, drawing.opposite, drawing.rim_at, drawing.string_at)

    def test_partner_and_opposite(self):
        for drawing in SAMPLES + SMALL:
            for one, other in joined_ends(drawing.crossings):
                self.assertEqual((drawing.partner(one), drawing.partner(other)), (other, one))
            for end in all_ends(drawing.crossings):
                self.assertEqual(drawing.opposite(end), opposite(end))
        self.assertEqual([CURL.opposite((0, p)) for p in range(4)], [(0, 2), (0, 3), (0, 0), (0, 1)])
        self.assertEqual([CURL.partner((0, p)) for p in range(4)], [(0, 1), (0, 0), (0, 3), (0, 2)])

    def test_rim_and_string_of_each_end(self):
        for drawing in SAMPLES + SMALL:
            for end in all_ends(drawing.crossings):
                self.assertEqual([rim for rim in drawing.rims if end in rim], [drawing.rim_at(end)])
                index = drawing.string_at(end)
                self.assertIs(type(index), int)
                self.assertTrue(end in drawing.strings[index] or opposite(end) in drawing.strings[index])
        self.assertEqual([LINKED.string_at((1, p)) for p in range(4)], [1, 0, 1, 0])
        self.assertEqual([WOVEN.string_at((i, 0)) for i in range(3)], [0, 2, 1])
        self.assertEqual(KNOT.rim_at((2, 2)), ((0, 2), (1, 2), (2, 2)))

    def test_ends_that_there_are_not(self):
        for drawing in SAMPLES:
            many = len(drawing)
            for end in ((many, 0), (many, 3), (0, 4), (0, -1), (-1, 0), (many - 1, 4), (0, 0, 0), (0,), (), (10 ** 60, 0),
                        (0, 10 ** 60), (10 ** 60 - 1, 3), (-many, 0), [0, 0], "00", {0: 0, 1: 1}, ((0, 0),), ((0, 0), (0, 0))):
                for method in self.methods(drawing):
                    with self.assertRaises(InvalidEnd):
                        method(end)

    def test_no_end_without_crossings(self):
        for method in self.methods(Drawing(rings=9)):
            for end in ((0, 0), (0, 3), (1, 0)):
                with self.assertRaises(InvalidEnd):
                    method(end)

    def test_true_is_not_1(self):
        for end in ((0, True), (True, 0), (False, 0), (0, False), (True, True), (False, False)):
            for method in self.methods(KNOT):
                with self.assertRaises(InvalidEnd):
                    method(end)

    def test_wrong_values(self):
        for value in OTHERS + NUMBERS:
            for end in (value, (value, 0), (0, value), (value, value), (0, 0, value), [0, value]):
                for method in self.methods(KNOT):
                    with self.assertRaises(InvalidEnd):
                        method(end)

    def test_lists_are_not_changed(self):
        end = [0, 0]
        for method in self.methods(KNOT):
            with self.assertRaises(InvalidEnd):
                method(end)
        self.assertEqual(end, [0, 0])


class Signs(unittest.TestCase):
    def test_len_and_iteration(self):
        for drawing in SAMPLES:
            self.assertEqual(len(drawing), len(drawing.crossings))
            self.assertEqual(list(drawing), list(drawing.crossings))
        self.assertEqual(list(RING), [])
        self.assertEqual([len(some) for some in (RING, CURL, NINE)], [0, 1, 9])

    def test_text(self):
        self.assertEqual(str(KNOT), "drawing of 3 crossings, 1 strings, 0 rings")
        self.assertEqual(str(RING), "drawing of 0 crossings, 1 strings, 1 rings")
        self.assertEqual(str(TWO_PIECES), "drawing of 3 crossings, 4 strings, 1 rings")
        self.assertEqual(str(Drawing(curls(9), rings=9)), "drawing of 9 crossings, 18 strings, 9 rings")

    def test_equal_drawings(self):
        for at, one in enumerate(SAMPLES):
            for place, other in enumerate(SAMPLES):
                self.assertIs(one == other, at == place)
                self.assertIs(one != other, at != place)
            again = Drawing(tuple(tuple(list(crossing)) for crossing in one.crossings), rings=one.rings)
            self.assertTrue(one == again and not one != again)
        self.assertFalse(Drawing(CURL.crossings, rings=1) == CURL)
        self.assertFalse(Drawing(((1, 1, 0, 0),)) == CURL)

    def test_equality_accepts_every_value(self):
        for drawing in SAMPLES:
            for value in WRONG + [(), 0, 1, drawing.crossings, drawing.lines, str(drawing), drawing.strands, len(drawing)]:
                same = type(value) is Drawing and value.crossings == drawing.crossings and value.rings == drawing.rings
                self.assertIs(drawing == value, same)
                self.assertIs(value == drawing, same)
                self.assertIs(drawing != value, not same)
                self.assertIs(value != drawing, not same)

    def test_in_accepts_every_value(self):
        for drawing in SAMPLES:
            for crossing in drawing.crossings:
                self.assertIs(crossing in drawing, True)
                self.assertIs(list(crossing) in drawing, False)
            for value in WRONG + [(), 0, (0, 0, 0, 0), drawing.crossings, drawing.lines]:
                self.assertIs(value in drawing, False)
                self.assertIs(value not in drawing, True)
        self.assertIs((0, 0, True, True) in CURL, False)
        self.assertIs((False, False, 1, 1) in CURL, False)

    def test_operators_refuse_other_kinds(self):
        for call in (lambda: KNOT + KNOT, lambda: KNOT < EIGHT, lambda: KNOT[0], lambda: -KNOT, lambda: KNOT * 2):
            with self.assertRaises(TypeError):
                call()


class Interface(unittest.TestCase):
    def test_all_is_defined_in_the_class_itself(self):
        told = vars(Drawing)
        for name in ("crossings", "rings", "lines", "strands", "pieces", "rims", "strings", "many_strings", "is_one_piece",
                     "numbered", "mirror", "behind"):
            self.assertIsInstance(told[name], property)
        for name in ("__init__", "partner", "opposite", "rim_at", "string_at", "__len__", "__iter__", "__eq__", "__str__"):
            self.assertTrue(inspect.isfunction(told[name]), name)
        self.assertIsInstance(told["from_lines"], classmethod)
        self.assertEqual(Drawing.__module__, drawings.__name__)

    def test_arguments_are_those_that_are_told(self):
        self.assertEqual(str(inspect.signature(Drawing)), "(crossings=(), *, rings=0)")
        self.assertEqual(str(inspect.signature(Drawing.from_lines)), "(*lines)")
        for method in (KNOT.partner, KNOT.opposite, KNOT.string_at):
            self.assertEqual(str(inspect.signature(method)), "(end)")
        self.assertEqual(str(inspect.signature(KNOT.rim_at)), "(corner)")


if __name__ == "__main__":
    unittest.main()
