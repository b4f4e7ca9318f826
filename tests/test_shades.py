"""Shades: stage 8, [0.11], [0.13], and [0.1] to [0.7] as far as they reach it."""

import inspect
import unittest

from crosswebs.draw.drawings import Drawing
from crosswebs.errors import InvalidDrawing, InvalidEnd, InvalidOperation, InvalidShade
from crosswebs.webs import shades
from crosswebs.webs.shades import Shade, dark_of, dark_rims, drawing_of, light_of, light_rims
from crosswebs.webs.webs import Web, count_trees
from tests.plain import classes, rim_classes
from tests.refusals import broken, check_arguments, check_equality, check_interface, check_plain, check_refused, wrong_but
from tests.samples import (CURL, EIGHT, KNOT, LINKED, NINE, REACHED, RING, SAMPLES, SMALL, TWO_PIECES, WOVEN, WRONG,
                           all_rounds, pattern)

NO_DRAWINGS = wrong_but(Drawing)
ONE_PIECE = [drawing for drawing in SAMPLES + REACHED + SMALL[::4] if drawing.is_one_piece]
SEVERAL = [RING, TWO_PIECES, WOVEN, Drawing(CURL.crossings, rings=1), Drawing(KNOT.crossings, rings=9), Drawing(rings=9)]


def is_flat(rounds):
    """Whether rounds with some tie hang together, with as many faces as on a ball."""
    ends = sorted(end for told in rounds for end in told)
    if not ends or () in rounds:
        return False
    behind = {end: told[(at + 1) % len(told)] for told in rounds for at, end in enumerate(told)}
    place = {end: at for at, told in enumerate(rounds) for end in told}
    lots = classes(range(len(rounds)), [(place[tie, 0], place[tie, 1]) for tie, end in ends if end == 0])
    faces = classes(ends, [((tie, end), behind[tie, 1 - end]) for tie, end in ends])
    return len(lots) == 1 and len(rounds) - len(ends) // 2 + len(faces) == 2


ROUNDS = [rounds for ties in (1, 2) for rounds in all_rounds(ties) if is_flat(rounds)]
ROUNDS += [rounds for rounds in all_rounds(3) if is_flat(rounds)][::9]
SHADES = [Shade(rounds, pattern(number, len(rounds) + 5)[:sum(len(told) for told in rounds) // 2])
          for at, rounds in enumerate(ROUNDS) for number in (at % 8, 7 - at % 8)]
SHADES += [shade for drawing in ONE_PIECE[:14] + ONE_PIECE[-6:] for shade in (dark_of(drawing), light_of(drawing))]


def plain_rims(drawing, light):
    """The rims of one colour, in their order, by going from rim to rim over strands."""
    rims = rim_classes(drawing.crossings)
    colours = {next(rim for rim in rims if (0, 0) in rim): 0}
    while len(colours) < len(rims):
        for rim in list(colours):
            for i, p in rim:
                for other in ((i, (p + 1) % 4), (i, (p - 1) % 4)):
                    colours[next(near for near in rims if other in near)] = 1 - colours[rim]
    return tuple(rim for rim in drawing.rims if colours[frozenset(rim)] == light)


def plain_shade(drawing, light):
    """The rounds and the signs of the shade of one colour."""
    corners = [corner for rim in plain_rims(drawing, light) for corner in rim]
    signs = tuple(1 if (at, 1) in corners and (at, 3) in corners else -1 for at in range(len(drawing)))
    rounds = []
    for rim in plain_rims(drawing, light):
        told = [(i, [1, 3].index(p) if signs[i] == 1 else [0, 2].index(p)) for i, p in reversed(rim)]
        least = told.index(min(told))
        rounds.append(tuple(told[least:] + told[:least]))
    return tuple(sorted(rounds)), signs


class Examples(unittest.TestCase):
    def test_dark_and_light(self):
        dark, light = dark_of(KNOT), light_of(KNOT)
        told = [dark.rounds, dark.signs, light.rounds, light.signs, dark.web.ties]
        self.assertEqual(told, [(((0, 0), (1, 0), (2, 0)), ((0, 1), (2, 1), (1, 1))), (-1, -1, -1),
                                (((0, 0), (2, 1)), ((0, 1), (1, 0)), ((1, 1), (2, 0))), (1, 1, 1),
                                ((0, 1, -1), (0, 1, -1), (0, 1, -1))])

    def test_leading_back(self):
        dark, light = dark_of(KNOT), light_of(KNOT)
        told = [drawing_of(dark) == KNOT, drawing_of(light) == KNOT, dark.dual == light, light.dual == dark, dark_rims(KNOT),
                str(light), dark.end_behind((0, 1)), dark.end_ahead((0, 0))]
        self.assertEqual(told, [True, True, True, True, (((0, 0), (2, 0), (1, 0)), ((0, 2), (1, 2), (2, 2))),
                                "shade of 3 places, 3 ties", (2, 1), (2, 0)])

    def test_curl(self):
        told = [dark_of(CURL).rounds, light_of(CURL).rounds, light_of(CURL).web.ties, dark_of(CURL).faces, len(dark_of(EIGHT))]
        self.assertEqual(told, [(((0, 0),), ((0, 1),)), (((0, 0), (0, 1)),), ((0, 0, 1),), (((0, 0), (0, 1)),), 3])

    def test_some(self):
        some = Shade((((0, 0), (1, 0)), ((0, 1), (1, 1))), (1, -1))
        told = [drawing_of(some).crossings, drawing_of(some).many_strings, light_of(drawing_of(some)) == some,
                some.with_signs((-1, -1)) == dark_of(LINKED)]
        self.assertEqual(told, [((0, 1, 2, 3), (2, 1, 0, 3)), 2, True, True])
        check_refused(self, InvalidShade, Shade, (((0, 0), (1, 0), (0, 1), (1, 1)),), (1, 1))


class Made(unittest.TestCase):
    def refuse(self, rounds, signs):
        check_refused(self, InvalidShade, Shade, rounds, signs)

    def test_what_is_kept(self):
        for shade in SHADES:
            again = Shade(shade.rounds, shade.signs)
            self.assertEqual((again.rounds, again.signs), (shade.rounds, shade.signs))
            check_plain(self, (shade.rounds, shade.signs, shade.faces))

    def test_all_rounds_of_up_to_three_ties(self):
        found = []
        for ties in (1, 2, 3):
            for rounds in all_rounds(ties):
                if is_flat(rounds):
                    self.assertEqual(Shade(rounds, (-1,) * ties).rounds, rounds)
                    found.append(ties)
                else:
                    self.refuse(rounds, (-1,) * ties)
        self.assertEqual([found.count(ties) for ties in (1, 2, 3)], [2, 18, 432])

    def test_rounds_that_are_told_otherwise(self):
        for shade in SHADES:
            for at, told in enumerate(shade.rounds):
                for turn in range(1, len(told)):
                    self.refuse(shade.rounds[:at] + (told[turn:] + told[:turn],) + shade.rounds[at + 1:], shade.signs)
            if len(shade) > 1:
                self.refuse(shade.rounds[::-1], shade.signs)
                self.refuse(shade.rounds[1:] + shade.rounds[:1], shade.signs)
                self.refuse(shade.rounds[1:], shade.signs)
                self.refuse(shade.rounds[:-1], shade.signs)
            self.refuse(shade.rounds + ((),), shade.signs)
            self.refuse(((),) + shade.rounds, shade.signs)
            self.refuse(shade.rounds + shade.rounds, shade.signs)
            self.refuse(shade.rounds + (((len(shade.signs), 0),),), shade.signs)

    def test_no_ties_and_too_many(self):
        for rounds in ((), ((),), ((), ())):
            for signs in ((), (1,), (-1,)):
                self.refuse(rounds, signs)
        self.assertEqual(len(Shade((tuple((tie, end) for tie in range(9) for end in (0, 1)),), (1,) * 9).signs), 9)
        self.refuse((tuple((tie, end) for tie in range(10) for end in (0, 1)),), (1,) * 10)
        self.refuse((tuple((tie, end) for tie in range(10) for end in (0, 1)),), (1,) * 9)
        parallel = (tuple((tie, 0) for tie in range(9)), tuple((tie, 1) for tie in [0, 8, 7, 6, 5, 4, 3, 2, 1]))
        self.assertEqual(len(Shade(parallel, (-1,) * 9)), 2)
        self.assertEqual(len(Shade(parallel, (-1,) * 9).faces), 9)

    def test_not_hanging_together(self):
        self.refuse((((0, 0), (0, 1)), ((1, 0), (1, 1))), (1, 1))
        self.refuse((((0, 0),), ((0, 1),), ((1, 0),), ((1, 1),)), (1, 1))
        self.refuse((((0, 0), (1, 0), (0, 1), (1, 1)), ((2, 0),), ((2, 1),)), (1, 1, 1))

    def test_each_tie_end_stands_just_once(self):
        for rounds in ((((0, 0),),), (((0, 1),),), (((0, 0), (0, 0)),), (((0, 0), (0, 1), (0, 1)),),
                       (((0, 0), (0, 1)), ((0, 1),)),
                       (((1, 0), (1, 1)),), (((0, 0), (0, 2)),), (((0, 0), (0, 1), (2, 0), (2, 1)),), (((0, 0), (1, 1)),),
                       (((0, -1), (0, 0)),), (((0, 0), (0, 1), (10 ** 59, 0), (10 ** 59, 1)),),
                       (((0, 0), (0, 1), (10 ** 60, 0)),)):
            for signs in ((1,), (-1,), (1, 1), (1, 1, 1)):
                self.refuse(rounds, signs)

    def test_signs(self):
        for shade in SHADES[::7]:
            for signs in (shade.signs + (1,), shade.signs[:-1], list(shade.signs), shade.signs[:-1] + (0,),
                          shade.signs[:-1] + (2,),
                          shade.signs[:-1] + (True,), shade.signs[:-1] + (None,), shade.signs[:-1] + ("1",),
                          shade.signs[:-1] + (-2,),
                          shade.signs[:-1] + (10 ** 60,), {0: 1}, (), None, 1, "1", shade):
                self.refuse(shade.rounds, signs)
                check_refused(self, InvalidOperation, shade.with_signs, signs)
            for value in [value for value in WRONG if value != -1]:
                self.refuse(shade.rounds, value)
                self.refuse(shade.rounds, (value,) * len(shade.signs))
                check_refused(self, InvalidOperation, shade.with_signs, value)
                check_refused(self, InvalidOperation, shade.with_signs, shade.signs[:-1] + (value,))

    def test_wrong_values(self):
        for value in WRONG:
            for signs in ((1,), (-1, 1), value):
                self.refuse(value, signs)
                self.refuse((value,), signs)
                self.refuse((((0, 0), (0, 1)), value), signs)
                self.refuse((((0, 0), value),), signs)
                self.refuse((((0, 0), (0, value)),), signs)
                self.refuse((((0, 0), (value, 1)),), signs)
        self.refuse((((0, 0), (0, True)),), (1,))
        self.refuse((((False, 0), (0, 1)),), (1,))

    def test_values_like_rounds(self):
        for shade in (dark_of(KNOT), light_of(KNOT), light_of(CURL), dark_of(LINKED)):
            for rounds in broken(shade.rounds):
                self.refuse(rounds, shade.signs)

    def test_interface(self):
        check_interface(
            self, dark_of(KNOT), ("rounds", "signs", "web", "faces", "dual"),
            ("__init__", "end_behind", "end_ahead", "place_of", "with_signs", "__len__", "__iter__", "__eq__", "__str__"))
        shade = dark_of(KNOT)
        for made, told in ((Shade, "(rounds, signs)"), (shade.end_behind, "(tie_end)"), (shade.end_ahead, "(tie_end)"),
                           (shade.place_of, "(tie_end)"), (shade.with_signs, "(signs)"), (dark_of, "(drawing)"),
                           (light_of, "(drawing)"), (dark_rims, "(drawing)"), (light_rims, "(drawing)"),
                           (drawing_of, "(shade)")):
            self.assertEqual(str(inspect.signature(made)), told)
        for made in (Shade, dark_of, light_of, dark_rims, light_rims, drawing_of):
            self.assertEqual(made.__module__, shades.__name__)


class Told(unittest.TestCase):
    def test_ends_and_places(self):
        for shade in SHADES:
            for place, told in enumerate(shade.rounds):
                for end, behind in zip(told, told[1:] + told[:1]):
                    self.assertEqual((shade.end_behind(end), shade.end_ahead(behind), shade.place_of(end)),
                                     (behind, end, place))

    def test_ends_that_there_are_not(self):
        for shade in SHADES[::9] + [dark_of(NINE)]:
            many = len(shade.signs)
            for method in (shade.end_behind, shade.end_ahead, shade.place_of):
                for value in WRONG + [(many, 0), (0, 2), (0, -1), (-1, 0), (0,), (0, 0, 0), [0, 0], (0, True), (False, 0),
                                      (0, False),
                                      (True, 1), ((0, 0),), 0, (10 ** 60, 0), (0, 10 ** 59), (many, 1), ()]:
                    check_refused(self, InvalidEnd, method, value)

    def test_webs(self):
        for shade in SHADES:
            places = [[at for at, told in enumerate(shade.rounds) if end in told][0]
                      for end in sorted(end for told in shade.rounds for end in told)]
            ties = tuple(zip(places[::2], places[1::2], shade.signs))
            self.assertIs(type(shade.web), Web)
            self.assertEqual((shade.web.many, shade.web.ties), (len(shade.rounds), ties))

    def test_faces(self):
        for shade in SHADES:
            ends = [end for told in shade.rounds for end in told]
            self.assertEqual(sorted(end for face in shade.faces for end in face), sorted(ends))
            self.assertEqual(list(shade.faces), sorted(shade.faces))
            for face in shade.faces:
                self.assertEqual(face[0], min(face))
                for (tie, end), following in zip(face, face[1:] + face[:1]):
                    self.assertEqual(shade.end_behind((tie, 1 - end)), following)
            self.assertEqual(len(shade) - len(shade.signs) + len(shade.faces), 2)

    def test_with_signs(self):
        for shade in SHADES:
            for number in (0, 5, 255):
                other = shade.with_signs(pattern(number, len(shade.signs)))
                self.assertEqual((other.rounds, other.signs), (shade.rounds, pattern(number, len(shade.signs))))
            self.assertEqual(shade.with_signs(shade.signs), shade)

    def test_length_iteration_and_text(self):
        for shade in SHADES:
            self.assertEqual((len(shade), list(shade)), (len(shade.rounds), list(shade.rounds)))
            self.assertEqual(str(shade), f"shade of {len(shade.rounds)} places, {len(shade.signs)} ties")
            for told in shade.rounds:
                self.assertIs(told in shade, True)
            for value in WRONG + [0, (), shade.rounds, ((False, False),), ((False, 0), (0, True))]:
                self.assertIs(value in shade, value == ((0, 0),) and str(value) in [str(told) for told in shade.rounds])
        self.assertEqual(str(dark_of(NINE)), f"shade of {len(dark_rims(NINE))} places, 9 ties")

    def test_equal_shades(self):
        members = []
        for shade in SHADES[::5]:
            if str((shade.rounds, shade.signs)) not in [str((other.rounds, other.signs)) for other in members]:
                members.append(shade)
        check_equality(self, members, lambda shade: Shade(shade.rounds, tuple(list(shade.signs))),
                       [KNOT, dark_of(KNOT).rounds, dark_of(KNOT).web, (dark_of(KNOT).rounds, (-1, -1, -1)),
                        str(dark_of(KNOT))])
        self.assertFalse(dark_of(KNOT) == dark_of(KNOT).with_signs((-1, -1, 1)))
        self.assertFalse(dark_of(KNOT) == Shade((((0, 0), (2, 0), (1, 0)), ((0, 1), (1, 1), (2, 1))), (-1, -1, -1)))

    def test_signs_that_there_are_not(self):
        shade = dark_of(KNOT)
        for call in (lambda: shade + shade, lambda: shade < shade, lambda: shade[0], lambda: -shade, lambda: shade * 2):
            with self.assertRaises(TypeError):
                call()


class Colours(unittest.TestCase):
    def test_rims(self):
        for drawing in ONE_PIECE:
            self.assertEqual(dark_rims(drawing), plain_rims(drawing, 0))
            self.assertEqual(light_rims(drawing), plain_rims(drawing, 1))
            self.assertEqual(sorted(dark_rims(drawing) + light_rims(drawing)), list(drawing.rims))
            check_plain(self, (dark_rims(drawing), light_rims(drawing)))

    def test_dark_and_light_shades(self):
        for drawing in ONE_PIECE:
            for shade, light in ((dark_of(drawing), 0), (light_of(drawing), 1)):
                self.assertIs(type(shade), Shade)
                self.assertEqual((shade.rounds, shade.signs), plain_shade(drawing, light))
            self.assertEqual((dark_of(drawing).signs[0], light_of(drawing).signs[0]), (-1, 1))

    def test_places_are_in_the_order_of_the_rims(self):
        for drawing in ONE_PIECE:
            for shade, rims in ((dark_of(drawing), dark_rims(drawing)), (light_of(drawing), light_rims(drawing))):
                self.assertEqual([{i for i, _ in told} for told in shade.rounds], [{i for i, _ in rim} for rim in rims])
                for at, (one, other, sign) in enumerate(shade.web.ties):
                    first = 1 if sign == 1 else 0
                    self.assertEqual((drawing.rim_at((at, first)), drawing.rim_at((at, first + 2))), (rims[one], rims[other]))

    def test_both_are_dual(self):
        for drawing in ONE_PIECE:
            dark, light = dark_of(drawing), light_of(drawing)
            self.assertEqual((dark.dual, light.dual), (light, dark))
            self.assertEqual((drawing_of(dark), drawing_of(light)), (drawing.numbered, drawing.numbered))
            self.assertEqual((dark_of(drawing.numbered), light_of(drawing.numbered)), (dark, light))
            self.assertEqual((len(light), len(dark)), (len(dark.faces), len(light.faces)))
            self.assertEqual(light.signs, tuple(-sign for sign in dark.signs))
            self.assertEqual((dark.web.bridges, dark.web.loops), (light.web.loops, light.web.bridges))
            self.assertEqual(count_trees(dark.web), count_trees(light.web))
            alternate = all((p - r) % 2 == 1 for (_, p), (_, r) in drawing.strands)
            self.assertIs(len(set(dark.signs)) == 1, alternate)

    def test_shades_lead_to_drawings_and_back(self):
        for shade in SHADES:
            drawing = drawing_of(shade)
            self.assertIs(type(drawing), Drawing)
            self.assertEqual((drawing.is_one_piece, drawing.numbered, len(drawing)), (True, drawing, len(shade.signs)))
            dark, light = dark_of(drawing), light_of(drawing)
            self.assertEqual((shade, shade.dual), (dark, light) if shade.signs[0] == -1 else (light, dark))
            self.assertEqual(shade.dual.dual, shade)

    def test_crossings_of_ties(self):
        for shade in SHADES:
            strands, crossings = {}, drawing_of(shade).crossings
            for tie, sign in enumerate(shade.signs):
                h, k = (tie, 0), (tie, 1)
                told = [(shade.end_ahead(k), k), (h, shade.end_behind(h)), (shade.end_ahead(h), h), (k, shade.end_behind(k))]
                for strand, number in zip(told if sign == 1 else told[1:] + told[:1], crossings[tie]):
                    self.assertEqual(strands.setdefault(strand, number), number)
            self.assertEqual(sorted(strands.values()), list(range(2 * len(shade.signs))))

    def test_refused(self):
        for function in (dark_of, light_of, dark_rims, light_rims):
            check_arguments(self, function, ([KNOT], NO_DRAWINGS, InvalidDrawing))
            for drawing in SEVERAL:
                check_refused(self, InvalidOperation, function, drawing)
        check_arguments(self, drawing_of, ([dark_of(KNOT)], wrong_but(Shade) + [dark_of(KNOT).web, dark_of(KNOT).rounds],
                                           InvalidShade))

    def test_nothing_is_changed(self):
        shade = dark_of(EIGHT)
        rounds, signs = shade.rounds, shade.signs
        self.assertEqual((shade.dual, shade.web, drawing_of(shade)), (shade.dual, shade.web, drawing_of(shade)))
        shade.with_signs((1,) * 4)
        self.assertEqual((shade.rounds, shade.signs), (rounds, signs))


if __name__ == "__main__":
    unittest.main()
