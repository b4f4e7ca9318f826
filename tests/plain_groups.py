"""Determinants, orders and colourings worked out otherwise than in the package: by minors, and out of all tuples."""

from fractions import Fraction
from itertools import combinations, product
from math import gcd

from tests.plain import classes


def plain_determinant(table):
    """The determinant, by fractions."""
    rows, told = [[Fraction(part) for part in row] for row in table], Fraction(1)
    for at in range(len(rows)):
        below = [place for place in range(at, len(rows)) if rows[place][at]]
        if not below:
            return 0
        if below[0] != at:
            rows[at], rows[below[0]], told = rows[below[0]], rows[at], -told
        told *= rows[at][at]
        for place in range(at + 1, len(rows)):
            factor = rows[place][at] / rows[at][at]
            rows[place] = [a - factor * b for a, b in zip(rows[place], rows[at])]
    return int(told)


def minors_of(table, size):
    """The determinants of all parts of a table with so many rows and columns."""
    sides = list(combinations(range(len(table)), size))
    return [plain_determinant([[table[row][column] for column in columns] for row in rows]) for rows in sides for columns in sides]


def plain_orders(table):
    """The orders, by the greatest common divisors of all minors of each size."""
    told, before = [], 1
    for size in range(1, len(table) + 1):
        divisor = gcd(*minors_of(table, size))
        told.append(divisor // before if divisor else 0)
        before = divisor or 1
    return tuple(order for order in told if order != 1)


def times_table(one, other):
    """The product of two tables."""
    return tuple(tuple(sum(one[i][k] * other[k][j] for k in range(len(one))) for j in range(len(one))) for i in range(len(one)))


def plain_is_shortening(table, left, right):
    """Whether two square tables with determinants 1 or -1 make a chain of divisors of the table."""
    if abs(plain_determinant(left)) != 1 or abs(plain_determinant(right)) != 1:
        return False
    told = times_table(times_table(left, table), right)
    if any(told[i][j] for i in range(len(told)) for j in range(len(told)) if i != j):
        return False
    numbers = [told[i][i] for i in range(len(told))]
    return all(a >= 0 for a in numbers) and all(b % a == 0 if a else b == 0 for a, b in zip(numbers, numbers[1:]))


def plain_over_runs(crossings, rings):
    """The strands that belong together at upper ends, and the free rings."""
    groups = classes(range(2 * len(crossings)), [(crossing[1], crossing[3]) for crossing in crossings])
    return tuple(sorted(tuple(sorted(group)) for group in groups)) + ((),) * rings


def fits(crossings, runs, modulus, colours):
    """Whether colours of over-runs fit at each crossing."""
    of = {strand: colour for run, colour in zip(runs, colours) for strand in run}
    return all((2 * of[b] - of[a] - of[c]) % modulus == 0 for a, b, c, _ in crossings)


def plain_colourings(crossings, rings, modulus):
    """All colourings, out of all tuples."""
    runs = plain_over_runs(crossings, rings)
    return [colours for colours in product(range(modulus), repeat=len(runs)) if fits(crossings, runs, modulus, colours)]
