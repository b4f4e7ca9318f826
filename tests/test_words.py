"""Integers and counts: stage 1, words, and [0.1]."""

import unittest

from crosswebs.base.words import MAX_FIGURES, are_counts, is_count, is_integer, is_line_number
from tests.samples import NUMBERS, OTHERS, WRONG

LONGEST = int("9" * 60)


class Words(unittest.TestCase):
    def test_example_of_the_document(self):
        told = [is_integer(-7), is_integer(True), is_count(-1), is_count(0), are_counts((3, 0, 3)), are_counts([1]),
                are_counts(())]
        self.assertEqual(told, [True, False, False, True, True, False, True])

    def test_sixty_figures(self):
        self.assertEqual(MAX_FIGURES, 60)
        for value in (0, 1, -1, LONGEST, -LONGEST, 10 ** 59, -(10 ** 59)):
            self.assertIs(is_integer(value), True)
        for value in (LONGEST + 1, -LONGEST - 1, 10 ** 60, 10 ** 61, -(10 ** 99), 10 ** 99):
            self.assertIs(is_integer(value), False)

    def test_counts_are_integers_from_0_on(self):
        for value in (0, 1, 10, LONGEST):
            self.assertIs(is_count(value), True)
        for value in (-1, -LONGEST, LONGEST + 1, -LONGEST - 1):
            self.assertIs(is_count(value), False)

    def test_tuples_of_counts(self):
        for value in ((), (0,), (LONGEST, 0, 0), tuple(range(1000))):
            self.assertIs(are_counts(value), True)
        for value in ((-1,), (0, 1, -1), (LONGEST + 1,), (0, True), (False,), (0, None), ((0,),), ([],), ("1",), {0: 1}, "12"):
            self.assertIs(are_counts(value), False)

    def test_other_values_are_none(self):
        for value in OTHERS:
            self.assertIs(is_integer(value), False)
            self.assertIs(is_count(value), False)
            self.assertIs(are_counts(value), False)
            self.assertIs(are_counts((value,)), False)
        for value in NUMBERS:
            self.assertIs(are_counts(value), False)

    def test_arguments_are_not_changed(self):
        value = [1, [2], {"a": 3}]
        self.assertFalse(is_integer(value) or is_count(value) or are_counts(value) or are_counts((value,)))
        self.assertEqual(value, [1, [2], {"a": 3}])

    def test_numbers_of_lines(self):
        for number in range(100):
            self.assertIs(is_line_number(str(number)), True)
        for text in ("", "00", "01", "100", "-1", "+1", " 1", "1 ", "1\n", "x", "1_0", "\u0663", "\u00b2"):
            self.assertIs(is_line_number(text), False)
        for value in WRONG:
            self.assertIs(is_line_number(value), value == "0")


if __name__ == "__main__":
    unittest.main()
