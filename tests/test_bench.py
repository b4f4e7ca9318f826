"""A bench: stage 18, and [0.1] to [0.7] as far as they reach it."""

import inspect
import unittest

from crosswebs.base.rows import Row
from crosswebs.bracket.kept import bare_row
from crosswebs.change.changes import switched
from crosswebs.draw.courses import Course
from crosswebs.draw.drawings import Drawing
from crosswebs.draw.joins import apart, summed
from crosswebs.draw.moves import each_move, moved
from crosswebs.errors import (InvalidDrawing, InvalidMove, InvalidNumber, InvalidOperation, NothingToUndo, Refused, TooMany)
from crosswebs.group.groups import count_colourings, determinant
from crosswebs.use import bench as module
from crosswebs.use.bench import MAX_PLEDGES, Bench, is_pledge
from tests.refusals import broken, check_arguments, check_interface, check_plain, check_refused, wrong_but, wrong_indices
from tests.samples import (CURL, EIGHT, KNOT, LINKED, NINE, REACHED, RING, SAMPLES, TWO_PIECES, WOVEN, WRONG, curls)

NO_DRAWINGS = wrong_but(Drawing)
LAP = ("lap", (0, 1), (2, 1), 1)
BIG = 10 ** 60 - 1
PLEDGES = [("row", "0"), ("row", "1"), ("row", "-x^-16 + x^-12 + x^-4"), ("row", "x"), ("row", "-x^10000"), ("row", str(BIG)),
           ("strings", 0), ("strings", 1), ("strings", BIG), ("most", 0), ("most", 3), ("most", BIG), ("determinant", 0),
           ("determinant", 3), ("determinant", BIG), ("colours", 1, 1), ("colours", 3, 9), ("colours", 1, 0), ("colours", BIG, BIG)]
NO_PLEDGES = WRONG + [
    ("row", ""), ("row", "x^"), ("row", "1x"), ("row", "-0"), ("row", "x^1"), ("row", "x + 1"), ("row", "x^10001"), ("row", " 1"),
    ("row", "1\n"), ("row", "0x"), ("row", str(BIG + 1)), ("row", 1), ("row", Row({0: 1})), ("row", None), ("row",), ("row", "1", "1"),
    ("row", ("1",)), ("strings", True), ("strings", -1), ("strings", BIG + 1), ("strings", "1"), ("strings",), ("strings", 1, 1),
    ("most", False), ("most", -1), ("most", None), ("most", (3,)), ("most", 10 ** 99), ("determinant", True), ("determinant", -3),
    ("determinant", "3"), ("determinant",), ("colours", 0, 1), ("colours", 3), ("colours", True, 1), ("colours", 3, True),
    ("colours", -3, 9), ("colours", 3, -9), ("colours", BIG + 1, 1), ("colours", 1, BIG + 1), ("colours", 3, 9, 9), ("colours",),
    ("rows", "1"), ("Row", "1"), ("row ", "1"), ("string", 1), ("crossings", 3), ("least", 3), (0, 1), ((), 1), (None, None),
    ["row", "1"], ["most", 3], [("most", 3)], (("most", 3),), ("most 3",), "most", ("most",), {"most": 3}, ((("most",),), 3)]


def right_pledges(drawing):
    """One pledge of each word that holds of a drawing."""
    return [("row", str(bare_row(drawing))), ("strings", drawing.many_strings), ("most", len(drawing)),
            ("determinant", determinant(drawing)), ("colours", 6, count_colourings(drawing, 6))]


def state(bench):
    """All that can be told of a bench, also what can be taken back and done again."""
    told, twin = [], bench.twin()
    while twin.changes:
        twin.undo()
    while True:
        told.append((twin.drawing.crossings, twin.drawing.rings, twin.pledges, twin.changes))
        try:
            twin.redo()
        except NothingToUndo:
            return (bench.drawing.crossings, bench.drawing.rings, bench.pledges, bench.changes, told)


def check_unchanged(case, bench, error, call, *values, kept=None):
    """The call is refused, and changes nothing."""
    before = state(bench)
    check_refused(case, error, call, *values, kept=kept)
    case.assertEqual(state(bench), before)


def news(before, behind):
    return (len(behind) - len(before), len(behind.pieces) - len(before.pieces), behind.many_strings - before.many_strings)


def worked():
    """A bench with six changes, two of them taken back, and two pledges."""
    bench = Bench(KNOT)
    bench.demand(("determinant", 3))
    bench.move(LAP)
    bench.demand(("most", 7))
    bench.move(("unlap", (3, 1)))
    bench.move()
    bench.move(("curl", (0, 0), 1))
    bench.undo(many=2)
    return bench


class Examples(unittest.TestCase):
    def test_moves(self):
        told = [Bench(KNOT).move(("lap", (0, 1), (2, 1), 1)), Bench(CURL).move(("uncurl", (0, 0))),
                ("uncurl", (0, 0)) in Bench(CURL).moves(), is_pledge(("row", "x^")), is_pledge(("colours", 0, 1))]
        self.assertEqual(told, [(2, 0, 0), (-1, -1, 0), True, False, False])

    def test_pledges(self):
        bench = Bench(KNOT)
        told = [str(bench.row), bench.demand(("determinant", 3)), bench.demand(("colours", 3, 9)), bench.holds(("most", 2)), str(bench)]
        self.assertEqual(told, ["-x^-16 + x^-12 + x^-4", (0, 0, 0), (0, 0, 0), False, "bench of 3 crossings, 1 strings, 2 pledges"])
        with self.assertRaises(Refused):
            bench.switch(0)
        told = [bench.waive(("colours", 3, 9)), bench.waive(("determinant", 3)), bench.switch(0), str(bench.row), bench.put_apart(RING),
                bench.undo(many=2), bench.drawing == KNOT, bench.changes]
        self.assertEqual(told, [(0, 0, 0), (0, 0, 0), (0, 0, 0), "1", (0, 0, 1), (0, 0, -1), True, 4])


class Pledges(unittest.TestCase):
    def test_values_that_are_pledges(self):
        self.assertEqual(MAX_PLEDGES, 10)
        for value in PLEDGES:
            self.assertIs(is_pledge(value), True, value)
            for other in broken(value):
                if is_pledge(other):
                    self.assertNotIn("True", str(other))
                    self.assertEqual((type(other), len(other), other[0]), (tuple, len(value), value[0]))
                    self.assertIn(type(other[1]), (str,) if value[0] == "row" else (int,))
        for value in NO_PLEDGES:
            self.assertIs(is_pledge(value), False, value)
            for word in ("strings", "most", "determinant"):
                right = type(value) is int and 0 <= value <= BIG
                self.assertIs(is_pledge((word, value)), right, value)
                self.assertIs(is_pledge((value, 1)), isinstance(value, str) and value == "most")
                self.assertIs(is_pledge(("colours", value, 1)), right and value > 0)
                self.assertIs(is_pledge(("colours", 1, value)), right)
            self.assertIs(is_pledge(("row", value)), value == "0" and isinstance(value, str))

    def test_holds(self):
        for drawing in SAMPLES[:12] + REACHED[:6]:
            bench = Bench(drawing)
            for pledge in right_pledges(drawing):
                self.assertIs(bench.holds(pledge), True)
                if pledge[0] == "row":
                    wrongs = [("row", "7"), ("row", "0"), ("row", str(bare_row(drawing) * 2))]
                else:
                    wrongs = [pledge[:-1] + (pledge[-1] - 1,)] if pledge[-1] else []
                    wrongs += [pledge[:-1] + (pledge[-1] + 1,)] if pledge[0] != "most" else []
                for wrong in wrongs:
                    self.assertIs(bench.holds(wrong), False, wrong)
            for many in range(12):
                self.assertIs(bench.holds(("most", many)), len(drawing) <= many)
                self.assertIs(bench.holds(("strings", many)), drawing.many_strings == many)
            self.assertIs(bench.holds(("colours", BIG, count_colourings(drawing, BIG))) if count_colourings(drawing, BIG) <= BIG
                          else True, True)
            for value in NO_PLEDGES:
                check_refused(self, InvalidOperation, bench.holds, value)
        self.assertIs(Bench(apart(KNOT, LINKED)).holds(("determinant", 0)), True)
        self.assertIs(Bench(Drawing(rings=9)).holds(("strings", 9)), True)

    def test_demanded_and_waived(self):
        for drawing in (RING, KNOT, TWO_PIECES, Drawing(curls(9), rings=9)):
            bench, pledges = Bench(drawing), right_pledges(drawing)
            for at, pledge in enumerate(pledges):
                self.assertIs(pledge in bench, False)
                self.assertEqual(bench.demand(pledge), (0, 0, 0))
                self.assertEqual((bench.pledges, bench.changes, bench.drawing), (tuple(pledges[:at + 1]), at + 1, drawing))
                self.assertIs(pledge in bench, True)
                check_unchanged(self, bench, InvalidOperation, bench.demand, pledge)
            self.assertEqual(bench.waive(pledges[2]), (0, 0, 0))
            self.assertEqual((bench.pledges, bench.changes), (tuple(pledges[:2] + pledges[3:]), 6))
            check_unchanged(self, bench, InvalidOperation, bench.waive, pledges[2])
            self.assertEqual((bench.demand(pledges[2]), bench.pledges[-1]), ((0, 0, 0), pledges[2]))

    def test_no_pledges(self):
        bench = Bench(KNOT)
        bench.demand(("strings", 1))
        for value in NO_PLEDGES:
            check_unchanged(self, bench, InvalidOperation, bench.demand, value)
            check_unchanged(self, bench, InvalidOperation, bench.waive, value)
            self.assertIs(value in bench, False)
        check_unchanged(self, bench, InvalidOperation, bench.waive, ("strings", True))
        check_unchanged(self, bench, InvalidOperation, bench.waive, ("strings", 2))
        self.assertIs(("strings", True) in bench, False)

    def test_ten_of_them(self):
        bench = Bench(KNOT)
        for many in range(3, 13):
            bench.demand(("most", many))
        for pledge in (("most", 13), ("most", 2), ("strings", 1)):
            with self.assertRaises(TooMany) as caught:
                bench.demand(pledge)
            self.assertEqual(caught.exception.limit, 10)
        check_unchanged(self, bench, InvalidOperation, bench.demand, ("most", 12))
        check_unchanged(self, bench, InvalidOperation, bench.demand, ("most", True))
        self.assertEqual((len(bench.pledges), bench.changes), (10, 10))
        bench.waive(("most", 7))
        self.assertEqual(bench.demand(("strings", 1)), (0, 0, 0))
        self.assertEqual(str(bench), "bench of 3 crossings, 1 strings, 10 pledges")

    def test_pledges_that_do_not_hold(self):
        bench = Bench(KNOT)
        bench.demand(("determinant", 3))
        for pledge in (("row", "1"), ("strings", 2), ("most", 2), ("determinant", 4), ("colours", 3, 8)):
            before = state(bench)
            with self.assertRaises(Refused) as caught:
                bench.demand(pledge)
            self.assertIs(caught.exception.pledge, pledge)
            self.assertEqual(state(bench), before)

    def test_the_first_pledge_that_would_not_hold(self):
        bench = Bench(KNOT)
        told = [("colours", 3, 9), ("most", 4), ("row", str(bare_row(KNOT))), ("strings", 1), ("determinant", 3)]
        for pledge in told:
            bench.demand(pledge)
        for call, refused in ((lambda: bench.switch(0), told[0]), (lambda: bench.move(LAP), told[1]),
                              (lambda: bench.switch(0, 1, 2), told[2]), (lambda: bench.put_apart(RING), told[0]),
                              (lambda: bench.sum_with(0, EIGHT, 0), told[1]), (lambda: bench.sum_with(0, CURL, 0), None),
                              (lambda: bench.move(("curl", (0, 0), 0), ("curl", (0, 0), 0)), told[1]),
                              (lambda: bench.sum_with(0, KNOT, 0), told[0])):
            before = state(bench)
            if refused is None:
                self.assertEqual(call(), (1, 0, 0))
                bench.undo()
                continue
            with self.assertRaises(Refused) as caught:
                call()
            self.assertEqual((caught.exception.pledge, state(bench)), (refused, before))

    def test_moves_are_refused_by_most_alone(self):
        for drawing in (KNOT, LINKED, TWO_PIECES, REACHED[0], CURL):
            bench = Bench(drawing)
            for pledge in right_pledges(drawing):
                bench.demand(pledge)
            for move in list(each_move(drawing))[::3]:
                behind = moved(drawing, move)
                if len(behind) > len(drawing):
                    with self.assertRaises(Refused) as caught:
                        bench.move(move)
                    self.assertEqual(caught.exception.pledge, ("most", len(drawing)))
                else:
                    self.assertEqual(bench.move(move), news(drawing, behind))
                    bench.undo()

    def test_asked_behind_the_last_move_only(self):
        bench = Bench(KNOT)
        bench.demand(("most", 3))
        self.assertEqual(bench.move(LAP, ("unlap", (3, 1))), (0, 0, 0))
        self.assertEqual((bench.drawing, bench.changes), (KNOT, 2))
        check_unchanged(self, bench, InvalidMove, bench.move, LAP, LAP, None)


class Changes(unittest.TestCase):
    def test_moves(self):
        for drawing in (RING, CURL, KNOT, TWO_PIECES, REACHED[0], REACHED[3]):
            for move in list(each_move(drawing))[::4]:
                bench = Bench(drawing)
                behind = moved(drawing, move)
                self.assertEqual(bench.move(move), news(drawing, behind))
                self.assertEqual((bench.drawing, bench.changes, len(bench)), (behind, 1, len(behind)))
        bench = Bench(Drawing(KNOT.crossings[::-1]))
        self.assertEqual((bench.move(), bench.drawing.crossings, bench.changes), ((0, 0, 0), KNOT.crossings[::-1], 1))
        for value in WRONG + [("uncurl", (0, 0)), ("curl", (0, 0), True), ("curl ring", 0)]:
            check_unchanged(self, bench, InvalidMove, bench.move, value)
            check_unchanged(self, bench, InvalidMove, bench.move, ("curl", (0, 0), 0), value)

    def test_switched(self):
        for drawing in (KNOT, TWO_PIECES, NINE):
            for chosen in ((), (0,), (2, 0), tuple(range(len(drawing)))):
                bench = Bench(drawing)
                self.assertEqual((bench.switch(*chosen), bench.drawing), ((0, 0, 0), switched(drawing, *chosen)))
                self.assertEqual(bench.changes, 1)
        bench = Bench(KNOT)
        for value in wrong_indices(3):
            check_unchanged(self, bench, InvalidNumber, bench.switch, value, kept=value)
            check_unchanged(self, bench, InvalidNumber, bench.switch, 1, 1, value, kept=value)
        check_unchanged(self, bench, InvalidOperation, bench.switch, 0, 1, 0)

    def test_put_apart(self):
        for one, other in ((KNOT, EIGHT), (RING, TWO_PIECES), (CURL, Drawing(rings=9))):
            bench = Bench(one)
            self.assertEqual(bench.put_apart(other), (len(other), len(other.pieces), other.many_strings))
            self.assertEqual((bench.drawing, bench.changes), (apart(one, other), 1))
        bench = Bench(NINE)
        for value in NO_DRAWINGS:
            check_unchanged(self, bench, InvalidDrawing, bench.put_apart, value)
        for some, other in ((bench, CURL), (Bench(Drawing(rings=9)), RING), (Bench(EIGHT), Drawing(curls(6)))):
            with self.assertRaises(TooMany) as caught:
                some.put_apart(other)
            self.assertEqual((caught.exception.limit, some.changes), (9, 0))

    def test_sums(self):
        for one, strand, other, other_strand, crossed in ((KNOT, 0, EIGHT, 7, False), (KNOT, 5, EIGHT, 0, True),
                                                          (LINKED, 3, TWO_PIECES, 2, True), (WOVEN, 1, CURL, 1, False)):
            bench = Bench(one)
            behind = summed(one, strand, other, other_strand, crossed=crossed)
            self.assertEqual(bench.sum_with(strand, other, other_strand, crossed=crossed), news(one, behind))
            self.assertEqual((bench.drawing, bench.changes), (behind, 1))
        bench = Bench(KNOT)
        self.assertEqual((bench.sum_with(0, CURL, 0), bench.drawing), ((1, 0, 0), summed(KNOT, 0, CURL, 0)))
        bench.undo()
        truths = [value for value in wrong_but() if not isinstance(value, bool)] + [0, 1]
        check_arguments(self, lambda strand, other, other_strand, crossed: bench.sum_with(strand, other, other_strand, crossed=crossed),
                        ([5], wrong_indices(6), InvalidNumber), ([CURL], NO_DRAWINGS, InvalidDrawing),
                        ([1], wrong_indices(2), InvalidNumber), ([False, True], truths, InvalidOperation))
        self.assertEqual((bench.drawing, bench.changes), (KNOT, 0))
        with self.assertRaises(TooMany):
            Bench(NINE).sum_with(0, CURL, 0)
        check_refused(self, InvalidNumber, Bench(RING).sum_with, 0, CURL, 0, kept=0)

    def test_made(self):
        for drawing in SAMPLES:
            bench = Bench(drawing)
            self.assertEqual((bench.drawing, bench.pledges, bench.changes, bench.row), (drawing, (), 0, bare_row(drawing)))
        check_arguments(self, Bench, ([KNOT], NO_DRAWINGS + [Bench(KNOT), KNOT.crossings, Course(KNOT)], InvalidDrawing))

    def test_interface(self):
        check_interface(self, Bench(KNOT), ("drawing", "row", "pledges", "changes"), (
            "__init__", "move", "switch", "put_apart", "sum_with", "demand", "waive", "undo", "redo", "trial", "during", "twin",
            "moves", "holds", "__contains__", "__len__", "__iter__", "__eq__", "__str__"))
        bench = Bench(KNOT)
        for made, told in ((Bench, "(drawing)"), (bench.move, "(*moves)"), (bench.switch, "(*crossings)"), (bench.twin, "()"),
                           (bench.put_apart, "(other)"), (bench.sum_with, "(strand, other, other_strand, *, crossed=False)"),
                           (bench.demand, "(pledge)"), (bench.waive, "(pledge)"), (bench.undo, "(*, many=1)"),
                           (bench.redo, "(*, many=1)"), (bench.trial, "()"), (bench.during, "(call)"), (bench.moves, "()"),
                           (bench.holds, "(pledge)"), (is_pledge, "(value)")):
            self.assertEqual(str(inspect.signature(made)), told)
        self.assertEqual((Bench.__module__, is_pledge.__module__), (module.__name__,) * 2)


class Steps(unittest.TestCase):
    def test_taken_back_and_done_again(self):
        bench, states, told = Bench(KNOT), [], []
        calls = [lambda: bench.demand(("strings", 1)), lambda: bench.move(LAP), lambda: bench.switch(0, 3), lambda: bench.move(),
                 lambda: bench.waive(("strings", 1)), lambda: bench.put_apart(TWO_PIECES), lambda: bench.switch()]
        states.append((bench.drawing, bench.pledges))
        for call in calls:
            told.append(call())
            states.append((bench.drawing, bench.pledges))
        for many in range(len(calls) + 1):
            back = bench.undo(many=many)
            self.assertEqual(back, news(states[-1][0], states[len(calls) - many][0]))
            self.assertEqual(((bench.drawing, bench.pledges), bench.changes), (states[len(calls) - many], len(calls) - many))
            for more in range(many + 1):
                self.assertEqual(bench.redo(many=more), news(states[len(calls) - many][0], states[len(calls) - many + more][0]))
                self.assertEqual((bench.drawing, bench.pledges), states[len(calls) - many + more])
                bench.undo(many=more)
            bench.redo(many=many)
        self.assertEqual(told[1:4], [(2, 0, 0), (0, 0, 0), (0, 0, 0)])
        self.assertEqual([bench.undo(), bench.undo()], [(0, 0, 0), (-3, -2, -4)])
        self.assertEqual([bench.redo(), bench.redo()], [(3, 2, 4), (0, 0, 0)])

    def test_none_of_them(self):
        bench = worked()
        before = state(bench)
        self.assertEqual([bench.undo(many=0), bench.redo(many=0), state(bench)], [(0, 0, 0), (0, 0, 0), before])
        self.assertEqual([Bench(RING).undo(many=0), Bench(RING).redo(many=0)], [(0, 0, 0)] * 2)

    def test_more_than_there_are(self):
        bench = worked()
        self.assertEqual((bench.changes, len(bench.pledges)), (4, 2))
        for call, limit in ((bench.undo, 4), (bench.redo, 2)):
            for many in (limit + 1, limit + 7, BIG):
                before = state(bench)
                with self.assertRaises(NothingToUndo) as caught:
                    call(many=many)
                self.assertEqual((caught.exception.asked, state(bench)), (many, before))
            for value in wrong_but():
                if type(value) is not int or value < 0 or value > BIG:
                    check_unchanged(self, bench, InvalidNumber, lambda many: call(many=many), value, kept=value)
            check_unchanged(self, bench, InvalidNumber, lambda many: call(many=many), True, kept=True)
        self.assertEqual(bench.redo(many=2), (1, 0, 0))
        check_refused(self, NothingToUndo, bench.redo)
        check_refused(self, NothingToUndo, Bench(RING).undo)
        check_refused(self, NothingToUndo, Bench(RING).redo)

    def test_until_another_change_comes(self):
        for call in (lambda bench: bench.move(), lambda bench: bench.switch(), lambda bench: bench.demand(("most", 9)),
                     lambda bench: bench.waive(("most", 7)), lambda bench: bench.sum_with(0, CURL, 0)):
            bench = worked()
            call(bench)
            self.assertEqual(bench.changes, 5)
            check_refused(self, NothingToUndo, bench.redo)
            bench.undo()
            self.assertEqual((bench.drawing, bench.pledges), (worked().drawing, worked().pledges))
        for call in (lambda bench: bench.move(None), lambda bench: bench.switch(0), lambda bench: bench.demand(("most", 1)),
                     lambda bench: bench.waive(None), lambda bench: bench.put_apart(RING), lambda bench: bench.holds(("most", 1)),
                     lambda bench: bench.moves(), lambda bench: bench.row, lambda bench: bench.undo(many=9)):
            bench = worked()
            try:
                call(bench)
            except (InvalidMove, InvalidOperation, Refused, NothingToUndo):
                pass
            self.assertEqual(state(bench), state(worked()))
            self.assertEqual(bench.redo(many=2), (1, 0, 0))

    def test_pledges_are_not_asked_again(self):
        bench = Bench(KNOT)
        bench.move(LAP)
        bench.demand(("most", 5))
        self.assertEqual([bench.undo(many=2), bench.redo(many=2), bench.pledges], [(-2, 0, 0), (2, 0, 0), (("most", 5),)])
        bench.undo()
        self.assertEqual((bench.pledges, bench.move(("curl", (0, 0), 0))), ((), (1, 0, 0)))


class Trials(unittest.TestCase):
    def test_as_it_was(self):
        bench = worked()
        before = state(bench)
        with bench.trial() as same:
            self.assertIs(same, bench)
            bench.undo(many=3)
            bench.move(("curl", (0, 0), 1), ("curl", (0, 0), 2))
            bench.demand(("strings", 1))
            self.assertNotEqual(state(bench), before)
        self.assertEqual(state(bench), before)
        self.assertEqual((len(bench), list(bench)), (3, list(KNOT.lines)))

    def test_behind_an_error(self):
        for error, call in ((KeyError, lambda bench: {}["x"]), (Refused, lambda bench: bench.switch(0)),
                            (InvalidMove, lambda bench: bench.move(None)), (ZeroDivisionError, lambda bench: 1 // 0)):
            bench = worked()
            before = state(bench)
            with self.assertRaises(error):
                with bench.trial():
                    bench.redo()
                    bench.move(("curl", (0, 0), 1))
                    call(bench)
            self.assertEqual(state(bench), before)

    def test_trials_in_trials(self):
        bench = worked()
        before = state(bench)
        with bench.trial():
            bench.move(("curl", (0, 0), 1))
            between = state(bench)
            with self.assertRaises(ValueError):
                with bench.trial() as same:
                    same.undo(many=5)
                    with bench.trial():
                        bench.switch()
                    self.assertEqual((bench.changes, bench.drawing), (0, KNOT))
                    raise ValueError
            self.assertEqual(state(bench), between)
            bench.undo()
        self.assertEqual(state(bench), before)

    def test_as_it_was_when_the_block_was_entered(self):
        bench = Bench(KNOT)
        trial = bench.trial()
        bench.move(LAP)
        before = state(bench)
        with trial:
            bench.undo()
        self.assertEqual(state(bench), before)
        bench.move(("unlap", (3, 1)))
        self.assertEqual((bench.drawing, bench.changes), (KNOT, 2))

    def test_during(self):
        bench = worked()
        before = state(bench)
        self.assertEqual(bench.during(lambda same: (same is bench, same.move(("curl", (0, 0), 1)), len(same))), (True, (1, 0, 0), 4))
        self.assertEqual(state(bench), before)
        self.assertIsNone(bench.during(lambda same: None))
        self.assertIs(bench.during(lambda same: same), bench)
        self.assertEqual(bench.during(lambda same: same.during(lambda other: other.undo(many=4)) + (same.changes,)), (0, 0, 0, 4))
        for error, call in ((IndexError, lambda same: (same.undo(), [][0])), (NothingToUndo, lambda same: same.undo(many=5))):
            with self.assertRaises(error):
                bench.during(call)
            self.assertEqual(state(bench), before)

    def test_trials_are_not_iterated_over(self):
        for call in (lambda: list(Bench(KNOT).trial()), lambda: iter(Bench(KNOT).trial())):
            with self.assertRaises(TypeError):
                call()


class Told(unittest.TestCase):
    def test_twins(self):
        bench = worked()
        twin = bench.twin()
        self.assertIs(type(twin), Bench)
        self.assertIsNot(twin, bench)
        self.assertEqual((state(twin), twin == bench), (state(bench), True))
        before = state(bench)
        twin.redo()
        twin.switch()
        twin.waive(("most", 7))
        self.assertEqual(state(bench), before)
        self.assertIs(twin == bench, False)
        other = bench.twin()
        bench.undo(many=4)
        self.assertEqual((state(other), other.redo(many=2)), (before, (1, 0, 0)))

    def test_moves(self):
        for drawing in (RING, CURL, KNOT, TWO_PIECES, NINE, Drawing(curls(9), rings=9)):
            told = Bench(drawing).moves()
            self.assertEqual((type(told), told), (tuple, tuple(each_move(drawing))))

    def test_lines_and_pledges(self):
        for drawing in SAMPLES + REACHED[:5]:
            bench = Bench(drawing)
            self.assertEqual((list(bench), len(bench)), (list(drawing.lines), len(drawing)))
            for line in drawing.lines:
                self.assertIs(line in bench, True)
            for value in WRONG + ["cross 9 9 9 9", "ring ", "Ring", ("ring",), drawing.crossings, ("most", 9)]:
                self.assertIs(value in bench, False)
                self.assertIs(value not in bench, True)
            self.assertIs("ring" in bench, drawing.rings > 0)
        bench = Bench(KNOT)
        bench.move(LAP)
        self.assertEqual(list(bench), list(moved(KNOT, LAP).lines))
        self.assertIs(KNOT.lines[2] in bench, False)
        bench.undo()
        self.assertEqual(list(bench), list(KNOT.lines))
        check_plain(self, (bench.pledges, bench.changes, tuple(bench)))

    def test_equal_benches(self):
        def made(drawing, *pledges):
            bench = Bench(drawing)
            for pledge in pledges:
                bench.demand(pledge)
            return bench

        most, strings = ("most", 9), ("strings", 1)
        members = [(KNOT,), (KNOT, most), (KNOT, most, strings), (KNOT, strings, most), (KNOT, strings), (EIGHT,), (RING,),
                   (Drawing(KNOT.crossings, rings=1),)]
        for one in members:
            for other in members:
                self.assertIs(made(*one) == made(*other), one == other)
                self.assertIs(made(*one) != made(*other), one != other)
            for value in [value for value in WRONG if not isinstance(value, Bench)] + [one[0], one[0].lines, str(made(*one))]:
                self.assertIs(made(*one) == value, False)
                self.assertIs(made(*one) != value, True)
        bench = made(KNOT, most)
        bench.move()
        self.assertIs(bench == made(KNOT, most), True)

    def test_texts(self):
        self.assertEqual([str(Bench(some)) for some in (RING, NINE, TWO_PIECES)],
                         ["bench of 0 crossings, 1 strings, 0 pledges", "bench of 9 crossings, 1 strings, 0 pledges",
                          "bench of 3 crossings, 4 strings, 0 pledges"])
        self.assertEqual(str(worked()), "bench of 3 crossings, 1 strings, 2 pledges")

    def test_rows(self):
        for drawing in SAMPLES[:8]:
            row = Bench(drawing).row
            self.assertEqual((type(row), row), (Row, bare_row(drawing)))

    def test_signs_that_there_are_not(self):
        bench = Bench(KNOT)
        for call in (lambda: bench + bench, lambda: bench < bench, lambda: bench[0], lambda: -bench, lambda: bench * 2):
            with self.assertRaises(TypeError):
                call()

    def test_drawings_are_not_changed(self):
        drawing = Drawing(KNOT.crossings)
        bench = Bench(drawing)
        bench.switch(0, 1)
        bench.put_apart(EIGHT)
        self.assertEqual((drawing, EIGHT.crossings), (KNOT, Drawing(EIGHT.crossings).crossings))


if __name__ == "__main__":
    unittest.main()
