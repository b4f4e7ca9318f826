"""The errors [1.1], [1.2]."""

import unittest

from crosswebs import errors
from tests.samples import WRONG

WITH_MESSAGE = [
    "InvalidRow", "InvalidDrawing", "InvalidEnd", "InvalidMove", "InvalidCourse", "InvalidWeb", "InvalidShade",
    "InvalidSmoothing", "InvalidOrder", "InvalidTree", "InvalidPaper", "InvalidPairing", "InvalidMatching",
    "InvalidColouring", "InvalidOperation",
]
WITH_VALUE = {
    "ParseError": ("number", errors.CrossError),
    "InvalidNumber": ("value", IndexError),
    "NothingToUndo": ("asked", RuntimeError),
    "TooMany": ("limit", OverflowError),
    "Refused": ("pledge", ArithmeticError),
}


class Errors(unittest.TestCase):
    def test_each_has_just_the_base_that_is_told(self):
        self.assertEqual(errors.CrossError.__bases__, (ValueError,))
        for name in WITH_MESSAGE:
            self.assertEqual(getattr(errors, name).__bases__, (errors.CrossError,), name)
        for name, (_, base) in WITH_VALUE.items():
            self.assertEqual(getattr(errors, name).__bases__, (base,), name)

    def test_none_is_derived_from_one_beside_it(self):
        classes = [getattr(errors, name) for name in WITH_MESSAGE + list(WITH_VALUE)]
        for one in classes:
            self.assertEqual([other for other in classes if issubclass(one, other)], [one])

    def test_each_is_defined_in_the_module(self):
        for name in ["CrossError"] + WITH_MESSAGE + list(WITH_VALUE):
            self.assertEqual((getattr(errors, name).__module__, getattr(errors, name).__name__), ("crosswebs.errors", name))

    def test_those_with_a_message_take_one(self):
        for name in ["CrossError"] + WITH_MESSAGE:
            with self.assertRaises(getattr(errors, name)):
                raise getattr(errors, name)("what is wrong")

    def test_the_others_keep_any_value(self):
        for name, (attribute, _) in WITH_VALUE.items():
            self.assertIn("__init__", vars(getattr(errors, name)))
            for value in WRONG + [0, 1, 9, ("most", 3), ("row", "x")]:
                self.assertIs(getattr(getattr(errors, name)(value), attribute), value)

    def test_they_keep_what_they_take_when_raised(self):
        told = ["a", {"b": (1, 2)}]
        with self.assertRaises(ArithmeticError) as caught:
            raise errors.Refused(told)
        self.assertIs(caught.exception.pledge, told)
        with self.assertRaises(ValueError) as caught:
            raise errors.ParseError(7)
        self.assertEqual(caught.exception.number, 7)

    def test_they_cannot_be_iterated_over(self):
        for error in (errors.ParseError(0), errors.InvalidEnd("no end"), errors.TooMany(9)):
            with self.assertRaises(TypeError):
                iter(error)


if __name__ == "__main__":
    unittest.main()
