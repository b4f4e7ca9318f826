"""Rows: stage 2, and [0.1] to [0.4] as far as they reach it."""

import inspect
import unittest
from fractions import Fraction

from crosswebs.base import rows
from crosswebs.base.rows import MAX_POWER, Row
from crosswebs.errors import InvalidNumber, InvalidOperation, InvalidRow, ParseError, TooMany
from tests.refusals import check_arguments, check_equality, check_interface, check_refused, wrong_but
from tests.samples import CURL, KNOT, WRONG

LONGEST = 10 ** 60 - 1
CIRCLE = Row({-2: -1, 2: -1})
TERMS = [
    {}, {0: 1}, {0: -1}, {0: 7}, {1: 1}, {-1: 1}, {1: -1}, {5: -3}, {10000: 1}, {-10000: -1}, {-10000: 2, 10000: -3},
    {-2: 1, 0: -3, 4: 2}, {-2: -1, 2: -1}, {0: 1, 1: 1}, {-1: -1, 0: 1, 1: -1}, {3: 2, 4: -5, 9: LONGEST},
    {-4: LONGEST, -3: -LONGEST}, {-7: 1, -3: -1, 5: -1}, {exponent: exponent for exponent in range(-6, 7) if exponent},
    {2: 6, 3: -12}, {-40: 1, 40: 1}, {9999: 1, 10000: 1}, {0: 10, 1: 100, 2: 1000},
]
ROWS = [Row(terms) for terms in TERMS]
SHORT = [row for row in ROWS if row.span is None or max(abs(row.low), abs(row.high)) <= 40]
TOO_LONG = [10 ** 60, -(10 ** 60), 10 ** 99]
NO_INTEGERS = [value for value in WRONG if type(value) is not int] + TOO_LONG


def worth(row, number):
    """What comes of a row if x is a number, by fractions."""
    return sum((many * Fraction(number) ** exponent for exponent, many in row.terms.items()), Fraction(0))


class Examples(unittest.TestCase):
    def test_terms_and_text(self):
        row = Row({-2: 1, 0: -3, 4: 2})
        told = [str(row), row.low, row.span, row[0], row[1], str(row.turned), len(row), list(row)[0], 4 in row, 1 in row]
        self.assertEqual(told, ["x^-2 - 3 + 2x^4", -2, 6, -3, 0, "2x^-4 - 3 + x^2", 3, (-2, 1), True, False])
        told = [str(row * row.turned), str(row * 2 - row), row - row == Row.none(), str(Row.none()), Row.none().span]
        self.assertEqual(told, ["2x^-6 - 6x^-4 - 3x^-2 + 14 - 3x^2 - 6x^4 + 2x^6", "x^-2 - 3 + 2x^4", True, "0", None])

    def test_products(self):
        row = Row({-2: 1, 0: -3, 4: 2})
        told = [str(CIRCLE), str(CIRCLE.raised(2)), CIRCLE.at(1), (CIRCLE * row).quotient(CIRCLE) == row,
                str(Row.power(3, many=-1).raised(-2)), str(CIRCLE.spread(-3)), str(CIRCLE.shifted(2))]
        self.assertEqual(told, ["-x^-2 - x^2", "x^-4 + 2 + x^4", -2, True, "x^-6", "-x^-6 - x^6", "-1 - x^4"])

    def test_texts(self):
        told = [Row.of_text("-x + 7x^3") == Row({1: -1, 3: 7}), Row.of_text("-1") == Row.power(0, many=-1),
                str(Row.power(1)), str(Row({0: 1, 1: 1}).quotient(Row({5: 1, 6: 1})))]
        self.assertEqual(told, [True, True, "x", "x^-5"])

    def test_errors(self):
        check_refused(self, ParseError, Row.of_text, "1x")
        check_refused(self, InvalidOperation, CIRCLE.quotient, Row({0: 1, 1: 1}))


class Made(unittest.TestCase):
    def test_constant(self):
        self.assertEqual(MAX_POWER, 10000)

    def test_terms_are_told_by_ascending_exponents(self):
        for terms in TERMS:
            for given in (terms, {exponent: terms[exponent] for exponent in reversed(sorted(terms))}):
                row = Row(given)
                self.assertIs(type(row.terms), dict)
                self.assertEqual(list(row.terms.items()), sorted(terms.items()))
                self.assertEqual(row, Row(terms))

    def test_no_state_is_shared(self):
        given = {3: 1, 1: 2}
        row = Row(given)
        given[5] = 7
        del given[3]
        self.assertEqual(row.terms, {1: 2, 3: 1})
        told = row.terms
        self.assertIsNot(told, row.terms)
        told[9] = 9
        del told[1]
        self.assertEqual(row.terms, {1: 2, 3: 1})
        self.assertEqual((str(row), row.high, len(row)), ("2x + x^3", 3, 2))
        list(row).append((9, 9))
        self.assertEqual(list(row), [(1, 2), (3, 1)])

    def test_arguments_are_not_changed(self):
        given = {3: 1, 1: 2}
        Row(given)
        self.assertEqual(list(given.items()), [(3, 1), (1, 2)])
        with self.assertRaises(InvalidRow):
            Row({3: 1, 1: 0})
        one, other = Row({0: 1, 2: 3}), Row({1: 2})
        for call in (lambda: one + other, lambda: one - other, lambda: one * other, lambda: -one, lambda: one.raised(3),
                     lambda: one.shifted(1), lambda: one.spread(-2), lambda: one.turned, lambda: one.at(-1),
                     lambda: (one * other).quotient(other)):
            self.assertEqual(str(call()), str(call()))
        self.assertEqual((one.terms, other.terms), ({0: 1, 2: 3}, {1: 2}))

    def test_limits(self):
        self.assertEqual(Row({10000: LONGEST, -10000: -LONGEST}).terms, {-10000: -LONGEST, 10000: LONGEST})
        for terms in ({10001: 1}, {-10001: 1}, {0: 1, 10001: 1}, {0: 0}, {0: 1, 1: 0}, {0: 10 ** 60}, {0: -(10 ** 60)},
                      {10 ** 60: 1}, {LONGEST: 1}, {-LONGEST: 1}, {0: 1, 5: 10 ** 99}):
            check_refused(self, InvalidRow, Row, terms)

    def test_true_is_not_1(self):
        for terms in ({True: 1}, {False: 1}, {0: True}, {1: True}, {0: False}, {2: 1, 0: True}, {2: 1, True: 3}):
            check_refused(self, InvalidRow, Row, terms)

    def test_wrong_values(self):
        right = [value for value in WRONG if value == {}]
        self.assertEqual(len(right), 1)
        for value in WRONG:
            if value == {}:
                self.assertEqual(Row(value), Row.none())
                continue
            check_refused(self, InvalidRow, Row, value)
            check_refused(self, InvalidRow, Row, [(0, 1)])
            check_refused(self, InvalidRow, Row, ((0, 1),))
            if type(value) is not int or abs(value) >= 10 ** 60:
                check_refused(self, InvalidRow, Row, {0: value})
                check_refused(self, InvalidRow, Row, {1: 1, 0: value, 2: 2})
        for key in (None, True, "0", "", (), (0,), (None,), ("0",), 10 ** 60, 10 ** 99, -10001):
            check_refused(self, InvalidRow, Row, {key: 1})
            check_refused(self, InvalidRow, Row, {0: 1, key: 1})
            check_refused(self, InvalidRow, Row, {0: 0, key: None})

    def test_powers(self):
        for exponent in (0, 1, -1, 5, 10000, -10000):
            self.assertEqual(Row.power(exponent).terms, {exponent: 1})
            for many in (1, -1, 7, LONGEST, -LONGEST):
                self.assertEqual(Row.power(exponent, many=many).terms, {exponent: many})
            self.assertEqual(Row.power(exponent, many=0), Row.none())
        self.assertEqual(Row.none().terms, {})
        self.assertEqual((CIRCLE.power(2), CIRCLE.none()), (Row({2: 1}), Row({})))

    def test_wrong_powers(self):
        exponents = [10001, -10001, LONGEST] + NO_INTEGERS
        check_arguments(self, lambda exponent, many: Row.power(exponent, many=many),
                        ([0, 10000], exponents, InvalidRow), ([1, 0], NO_INTEGERS, InvalidRow))
        check_arguments(self, Row.power, ([0], exponents, InvalidRow))
        with self.assertRaises(TypeError):
            Row.power(1, 2)

    def test_interface(self):
        check_interface(
            self, Row({0: 1}), ("terms", "low", "high", "span", "turned"),
            ("__init__", "shifted", "spread", "at", "raised", "quotient", "__add__", "__sub__", "__mul__", "__neg__",
             "__getitem__", "__contains__", "__len__", "__iter__", "__eq__", "__str__"), ("power", "none", "of_text"))
        self.assertEqual(Row.__module__, rows.__name__)
        self.assertEqual(str(inspect.signature(Row)), "(terms)")
        self.assertEqual(str(inspect.signature(Row.power)), "(exponent, *, many=1)")
        self.assertEqual(str(inspect.signature(Row.of_text)), "(text)")
        for method, told in ((CIRCLE.shifted, "(many)"), (CIRCLE.spread, "(many)"), (CIRCLE.at, "(value)"),
                             (CIRCLE.raised, "(many)"), (CIRCLE.quotient, "(other)")):
            self.assertEqual(str(inspect.signature(method)), told)


class Texts(unittest.TestCase):
    def test_texts_of_rows(self):
        told = {
            "0": {}, "1": {0: 1}, "-1": {0: -1}, "7": {0: 7}, "x": {1: 1}, "-x": {1: -1}, "x^-1": {-1: 1}, "-x^-1": {-1: -1},
            "2x": {1: 2}, "-2x": {1: -2}, "x^2": {2: 1}, "-3x^5": {5: -3}, "1 + x": {0: 1, 1: 1}, "1 - x": {0: 1, 1: -1},
            "-x^-1 + 1 - x": {-1: -1, 0: 1, 1: -1}, "-12x^-3 - 1 + x - 5x^2 + 10x^11": {-3: -12, 0: -1, 1: 1, 2: -5, 11: 10},
            "x^-10000 + x^10000": {-10000: 1, 10000: 1}, "9" * 60 + "x": {1: LONGEST}, "-" + "9" * 60: {0: -LONGEST},
        }
        for text, terms in told.items():
            self.assertEqual(str(Row(terms)), text)
            self.assertEqual(Row.of_text(text).terms, terms)
            self.assertIs(type(Row.of_text(text)), Row)

    def test_texts_lead_back(self):
        for row in ROWS:
            self.assertEqual(Row.of_text(str(row)), row)
            self.assertIs(type(str(row)), str)

    def test_long_texts(self):
        row = Row({exponent: (-1) ** exponent * (exponent + 2) for exponent in range(0, 400)})
        self.assertGreater(len(str(row)), 3500)
        self.assertEqual(Row.of_text(str(row)), row)
        self.assertEqual(CIRCLE.of_text("x"), Row({1: 1}))

    def test_integers_of_more_figures_are_told_too(self):
        row = Row({0: 10 ** 59, 1: -1}) * Row({0: 10 ** 59})
        self.assertEqual(str(row), "1" + "0" * 118 + " - 1" + "0" * 59 + "x")
        self.assertEqual(str(Row({0: -(10 ** 59)}).raised(99)), "-1" + "0" * 5841)
        self.assertEqual(str(Row({3: LONGEST}) * 10 + Row({3: 7})), "9" * 60 + "7x^3")
        self.assertEqual(str(Row({0: 10 ** 59}) * 10 + 12), "1" + "0" * 58 + "12")

    def test_nearly_texts(self):
        for text in (
                "", " ", "-", "+", "+1", "-0", "00", "01", "0x", "0x^2", "1x", "-1x", "1x^2", "x^1", "x^0", "x^-0",
                "x^+2", "x^",
                "x2", "x-2", "2 x", "2*x", "2x^", "2x^3x", "xx", "x^x", "X", "y", "x ", " x", "x + ", " + x", "+ x",
                "- x", "x+1",
                "1+x", "1 +x", "1+ x", "1  + x", "1 +  x", "1 + + x", "1 - -x", "1 + -x", "1 + 0", "0 + x", "x + 1", "x + x",
                "x^2 + x", "1 + 1", "x - x", "1 + x + x", "x^2 + x^2", "1 * x", "1 x", "1 + x -", "1 - x +", "- 1", "--1", "1-",
                "x\n", "\nx", "1\n", "1 +\nx", "x^02", "x^-02", "02x", "1_0", "1_0x", "x^1_0", "1.0", "1e3", "0x10",
                "0b1", "- x",
                "x^10001", "x^-10001", "1 + x^10001", "x^" + "9" * 60, "x^" + "9" * 100, "1" + "0" * 60, "-1" + "0" * 60,
                "1" + "0" * 60 + "x", "1" * 4000, "x" * 4000, " " * 4000, "x^" + "1" * 3998, "None", "Row", "(x)",
                "x^(2)", "x**2",
                "\u0663", "\u00b2x", "x^\u0663", "2x^3 + 1", "-x^-1 - 1 - -x", "x^2 ", "0 ", "-0x", "0 - x", "x^--2", "-+1"):
            check_refused(self, ParseError, Row.of_text, text)

    def test_values_that_are_no_texts(self):
        for value in WRONG + [0, 1, {0: 1}, {}, ("x",), ["x"], Row({1: 1})]:
            if value == "0" and type(value) is str:
                self.assertEqual(Row.of_text(value), Row.none())
            else:
                check_refused(self, ParseError, Row.of_text, value)


class Told(unittest.TestCase):
    def test_ends(self):
        for terms, row in zip(TERMS, ROWS):
            if terms:
                self.assertEqual((row.low, row.high, row.span), (min(terms), max(terms), max(terms) - min(terms)))
            else:
                self.assertEqual((row.low, row.high, row.span), (None, None, None))
        self.assertEqual((Row({5: 1}).low, Row({5: 1}).high, Row({5: 1}).span), (5, 5, 0))

    def test_turned(self):
        for terms, row in zip(TERMS, ROWS):
            self.assertEqual(row.turned.terms, {-exponent: many for exponent, many in terms.items()})
            self.assertEqual(list(row.turned.terms), sorted(row.turned.terms))
            self.assertEqual(row.turned.turned, row)
        for one in SHORT:
            for other in SHORT:
                self.assertEqual((one + other).turned, one.turned + other.turned)
                self.assertEqual((one * other).turned, one.turned * other.turned)

    def test_integers_at_exponents(self):
        for terms, row in zip(TERMS, ROWS):
            for exponent in list(terms) + [0, 1, -1, 2, 77, 10000, -10000, 10001, -10001, LONGEST, -LONGEST]:
                self.assertEqual(row[exponent], terms.get(exponent, 0))
                self.assertIs(type(row[exponent]), int)
                self.assertIs(exponent in row, exponent in terms)
        for value in NO_INTEGERS:
            for row in (Row.none(), CIRCLE, Row({0: 1, 1: 1})):
                check_refused(self, InvalidNumber, lambda at, told=row: told[at], value, kept=value)
                self.assertIs(value in row, False)
                self.assertIs(value not in row, True)

    def test_length_and_iteration(self):
        for terms, row in zip(TERMS, ROWS):
            self.assertEqual(len(row), len(terms))
            self.assertEqual(list(row), sorted(terms.items()))
            self.assertEqual([type(pair) for pair in row], [tuple] * len(terms))
            self.assertEqual(list(row), list(row))
        self.assertEqual(list(Row({2: 1, -1: 3})), [(-1, 3), (2, 1)])

    def test_equal_rows(self):
        check_equality(self, ROWS, lambda row: Row(row.terms), TERMS + [str(row) for row in ROWS] + [0, 1, -1, 7])
        self.assertTrue(Row({0: 1, 5: 2}) == Row({5: 2, 0: 1}))

    def test_signs_that_there_are_not(self):
        for call in (lambda: CIRCLE < CIRCLE, lambda: CIRCLE % 2, lambda: CIRCLE // CIRCLE, lambda: CIRCLE ** 2,
                     lambda: +CIRCLE,
                     lambda: CIRCLE & 1, lambda: 2 + CIRCLE, lambda: 2 - CIRCLE, lambda: 2 * CIRCLE, lambda: "a" + CIRCLE):
            with self.assertRaises(TypeError):
                call()


class Worked(unittest.TestCase):
    def check_row(self, row):
        """Whatever is worked out has ascending terms, none of them 0."""
        self.assertIs(type(row), Row)
        self.assertEqual(list(row.terms), sorted(row.terms))
        self.assertNotIn(0, row.terms.values())
        self.assertTrue(all(type(part) is int for pair in row for part in pair))
        return row

    def test_sums_and_products(self):
        for one in SHORT:
            self.assertEqual(worth(self.check_row(-one), 3), -worth(one, 3))
            for other in SHORT:
                for number in (2, -3, Fraction(5, 7)):
                    self.assertEqual(worth(self.check_row(one + other), number), worth(one, number) + worth(other, number))
                    self.assertEqual(worth(self.check_row(one - other), number), worth(one, number) - worth(other, number))
                    self.assertEqual(worth(self.check_row(one * other), number), worth(one, number) * worth(other, number))

    def test_integers_stand_for_rows(self):
        for row in SHORT:
            for number in (0, 1, -1, 12, LONGEST, -LONGEST):
                told = Row.power(0, many=number)
                self.assertEqual(self.check_row(row + number), row + told)
                self.assertEqual(self.check_row(row - number), row - told)
                self.assertEqual(self.check_row(row * number), row * told)
        self.assertEqual((Row({0: 5}) + 1, Row({0: 5}) - 5, Row({0: 5}) * 0), (Row({0: 6}), Row.none(), Row.none()))
        self.assertEqual((Row({1: 5}) + 2, Row({1: 5}) - 2, Row({1: 5}) * 2),
                         (Row({0: 2, 1: 5}), Row({0: -2, 1: 5}), Row({1: 10})))

    def test_other_operands(self):
        for value in wrong_but(int, Row) + TOO_LONG + [True, False]:
            for call in (lambda: CIRCLE + value, lambda: CIRCLE - value, lambda: CIRCLE * value, lambda: Row.none() * value):
                with self.assertRaises(TypeError):
                    call()
            for call in (lambda: value + CIRCLE, lambda: value - CIRCLE, lambda: value * CIRCLE):
                with self.assertRaises(TypeError):
                    call()

    def test_rules_of_integers(self):
        for one in SHORT:
            self.assertEqual((one + 0, one - one, one * 1, one * 0, -(-one)), (one, Row.none(), one, Row.none(), one))
            for other in SHORT:
                self.assertEqual((one + other, one * other, one - other), (other + one, other * one, one + -other))
                self.assertEqual((one - other) * (one + other), one * one - other * other)
                if len(one) and len(other):
                    self.assertEqual((one * other).span, one.span + other.span)
                else:
                    self.assertEqual(one * other, Row.none())

    def test_products_beyond(self):
        for one, other in ((Row.power(10000), Row.power(1)), (Row.power(-10000), Row.power(-1)), (Row({0: 1, 6000: 1}),) * 2,
                           (Row({-5001: 1, 5: 2}), Row({-5000: 3, 7: 1})), (Row({10000: 1}), Row({-3: 1, 1: 1}))):
            with self.assertRaises(TooMany) as caught:
                one * other
            self.assertEqual(caught.exception.limit, 10000)
        self.assertEqual(Row.power(10000) * Row.power(-10000), Row.power(0))
        self.assertEqual((Row.power(5000) * Row.power(5000)).terms, {10000: 1})
        self.assertEqual((Row.power(-5000) * Row.power(-5000)).terms, {-10000: 1})
        self.assertEqual((Row.power(10000) * 0, Row.none() * Row.power(10000)), (Row.none(), Row.none()))
        self.assertEqual((Row({10000: 3, 0: 1}) - Row.power(10000)).terms, {0: 1, 10000: 2})

    def test_shifted(self):
        for row in SHORT:
            for many in (0, 1, -1, 900, -9000):
                self.assertEqual(self.check_row(row.shifted(many)), row * Row.power(many))
        self.assertEqual(Row.none().shifted(LONGEST), Row.none())
        self.assertEqual((Row.power(9999).shifted(1), Row.power(-9999).shifted(-1)), (Row.power(10000), Row.power(-10000)))
        check_arguments(self, CIRCLE.shifted, ([0], NO_INTEGERS, InvalidNumber))
        check_arguments(self, Row.none().shifted, ([0], NO_INTEGERS, InvalidNumber))
        for row, many in ((CIRCLE, 9999), (CIRCLE, -9999), (Row.power(10000), 1), (Row.power(-10000), -1), (CIRCLE, LONGEST)):
            self.check_too_many(row.shifted, many)

    def test_spread(self):
        for row in SHORT:
            for many in (1, -1, 2, -3, 7):
                self.assertEqual(self.check_row(row.spread(many)).terms, {many * at: part for at, part in row.terms.items()})
            self.assertEqual((row.spread(1), row.spread(-1)), (row, row.turned))
        self.assertEqual((Row.power(0).spread(LONGEST), Row.none().spread(-LONGEST)), (Row.power(0), Row.none()))
        check_arguments(self, CIRCLE.spread, ([1], [0] + NO_INTEGERS, InvalidNumber))
        check_arguments(self, Row.none().spread, ([1], [0] + NO_INTEGERS, InvalidNumber))
        self.assertEqual(CIRCLE.spread(5000).terms, {-10000: -1, 10000: -1})
        for row, many in ((CIRCLE, 5001), (CIRCLE, -5001), (Row.power(1), 10001), (Row.power(-1), 10001), (CIRCLE, LONGEST)):
            self.check_too_many(row.spread, many)

    def test_at(self):
        for row in ROWS:
            self.assertEqual((row.at(1), row.at(-1)), (worth(row, 1), worth(row, -1)))
            self.assertIs(type(row.at(-1)), int)
        self.assertEqual((Row.none().at(1), Row.none().at(-1)), (0, 0))
        self.assertEqual(Row({-3: 2, -2: 5, 1: 7}).at(-1), -4)
        wrongs = [0, 2, -2] + [value for value in WRONG if type(value) is not int or value != -1]
        check_arguments(self, CIRCLE.at, ([1], wrongs, InvalidNumber))

    def check_too_many(self, call, *values):
        with self.assertRaises(TooMany) as caught:
            call(*values)
        self.assertEqual(caught.exception.limit, 10000)

    def test_raised(self):
        for row in SHORT:
            product = Row({0: 1})
            for many in range(6):
                self.assertEqual(self.check_row(row.raised(many)), product)
                product = product * row
        for exponent in (0, 1, -1, 3, -100, 100):
            for sign in (1, -1):
                row = Row.power(exponent, many=sign)
                for many in (0, 1, 2, 3, 99, 100):
                    self.assertEqual(row.raised(-many) * row.raised(many), Row({0: 1}))
                    self.assertEqual(row.raised(many).terms, {exponent * many: sign ** many})
        self.assertEqual((Row.none().raised(0), Row.none().raised(1), Row.none().raised(100)),
                         (Row({0: 1}), Row.none(), Row.none()))
        self.assertEqual(Row({0: 1, 1: 1}).raised(100)[50], 100891344545564193334812497256)
        self.assertEqual((Row({0: 1, 100: 1}).raised(100).high, Row({-100: -1, 0: 1}).raised(100).low), (10000, -10000))

    def test_raised_is_refused(self):
        wrongs = [101, -101, LONGEST, -LONGEST] + NO_INTEGERS
        for row in (CIRCLE, Row.none(), Row.power(1), Row.power(10000)):
            check_arguments(self, row.raised, ([1], wrongs, InvalidNumber))
        for row in (Row.none(), CIRCLE, Row({0: 2}), Row({3: -2}), Row({0: 1, 1: 1}), Row({9999: 1, 10000: 1}),
                    Row({10000: 2})):
            for many in (-1, -2, -100):
                check_refused(self, InvalidOperation, row.raised, many)
        for row, many in ((Row.power(101), 100), (Row.power(-101), 100), (Row.power(101), -100), (Row.power(5001), 2),
                          (Row({0: 1, 101: 1}), 100), (Row({-10000: 1, 0: 1}), 2), (Row.power(10000), -2)):
            self.check_too_many(row.raised, many)
        for exponent in (10000, -10000):
            self.assertEqual(Row.power(exponent).raised(1), Row.power(exponent))
            self.assertEqual(Row.power(exponent).raised(-1), Row.power(-exponent))

    def test_quotients(self):
        for one in SHORT:
            for other in SHORT:
                if len(other):
                    self.assertEqual(self.check_row((one * other).quotient(other)), one)
        self.assertEqual(Row({0: 6, 1: -4}).quotient(Row({0: -2})), Row({0: -3, 1: 2}))
        self.assertEqual(Row({-3: 1, 3: -1}).quotient(Row({-1: 1, 1: -1})), Row({-2: 1, 0: 1, 2: 1}))
        self.assertEqual(Row.none().quotient(CIRCLE), Row.none())
        many = Row({0: LONGEST, 7: -3}).raised(4)
        self.assertEqual(many.quotient(Row({0: LONGEST, 7: -3})), Row({0: LONGEST, 7: -3}).raised(3))

    def test_quotients_of_long_rows(self):
        told = Row({-10000: -1, 10000: 1}).quotient(Row({0: -1, 1: 1}))
        self.assertEqual((told.low, told.high, len(told)), (-10000, 9999, 20000))
        check_refused(self, InvalidOperation, Row({0: 1, 10000: 1}).quotient, Row({0: LONGEST, 1: 1}))
        check_refused(self, InvalidOperation, Row({-10000: 1, 10000: 1}).quotient, Row({0: 1, 1: LONGEST, 2: 1}))

    def test_quotients_that_do_not_come_out_even(self):
        for row, other in (
                (Row({0: 1}), Row({0: 2})), (Row({0: 3}), Row({0: 2})), (Row({0: 1}), Row({0: 1, 1: 1})), (CIRCLE, Row({0: 2})),
                (Row({0: 1, 2: 1}), Row({0: 1, 1: 1})), (Row({0: 2, 1: 3}), Row({0: 2})),
                (Row({0: 1, 1: 1}), Row({0: 1, 2: 1})),
                (Row({0: 1, 1: 1, 2: 1}), Row({0: 1, 1: 1})), (Row({5: 1}), Row({4: 1, 5: 1})),
                (Row({0: 1, 1: 2}), Row({0: 2, 1: 1})),
                (Row({0: 1, 1: 4, 2: 4}), Row({0: 2, 1: 4})), (Row({0: 1, 3: 1}), Row({0: 1, 1: 3})),
                (Row({10000: 1}), Row({-1: 2}))):
            check_refused(self, InvalidOperation, row.quotient, other)
        for row in ROWS:
            check_refused(self, InvalidOperation, row.quotient, Row.none())

    def test_quotients_are_refused_in_order(self):
        for row in (Row.none(), CIRCLE, Row.power(10000)):
            check_arguments(self, row.quotient, ([CIRCLE], wrong_but(Row) + [0, 1, {0: 1}, "x", KNOT, CURL], InvalidRow))
        self.check_too_many(Row.power(10000).quotient, Row.power(-1))
        self.check_too_many(Row.power(-10000).quotient, Row.power(1))
        self.check_too_many(Row({9999: 1, 10000: 1}).quotient, Row({-2: 1, -1: 1}))
        self.assertEqual(Row.power(10000).quotient(Row.power(20 - 20)), Row.power(10000))
        self.assertEqual(Row({9999: 1, 10000: 1}).quotient(Row({-1: 1, 0: 1})), Row.power(10000))


if __name__ == "__main__":
    unittest.main()
