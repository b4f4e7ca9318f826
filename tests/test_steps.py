"""Moves and brackets come soon: few calls are made for them, however many tuples and smoothings there are."""

import sys
import unittest

from crosswebs.bracket.smoothings import bracket
from crosswebs.draw.joins import summed
from crosswebs.draw.moves import each_move, moved
from tests.samples import EIGHT, KNOT

SEVEN = summed(KNOT, 0, EIGHT, 3)
NINE_SUMMED = summed(summed(KNOT, 0, KNOT, 0), 2, KNOT, 1)


def count_calls(call):
    """How many functions are called, each time that a generator goes on counted."""
    events = []
    before = sys.getprofile()
    sys.setprofile(lambda frame, event, about: events.append(event))
    try:
        call()
    finally:
        sys.setprofile(before)
    return events.count("call") + events.count("c_call")


class Calls(unittest.TestCase):
    def test_moves(self):
        # There are 1768 tuples that could be moves.
        told = tuple(each_move(SEVEN))
        self.assertEqual(len(told), 264)
        self.assertLess(count_calls(lambda: tuple(each_move(SEVEN))), 10 * len(told))
        self.assertLess(count_calls(lambda: next(each_move(SEVEN))), 20)

    def test_drawings_behind_moves(self):
        told = tuple(each_move(SEVEN))
        self.assertLess(count_calls(lambda: [moved(SEVEN, move) for move in told]), 400 * len(told))

    def test_brackets(self):
        # There are 512 smoothings, with nine joins or more for each.
        self.assertLess(count_calls(lambda: bracket(NINE_SUMMED)), 5000)
        self.assertLess(count_calls(lambda: bracket(summed(EIGHT, 0, EIGHT, 3))), 5000)


if __name__ == "__main__":
    unittest.main()
