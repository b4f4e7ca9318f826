"""Class groups of webs and drawings: orders of square tables, determinants and colourings."""

from math import gcd

from crosswebs.base.parts import classes_of
from crosswebs.base.words import are_counts, is_count, is_integer
from crosswebs.draw.drawings import check_drawing
from crosswebs.draw.joins import piece_at
from crosswebs.errors import InvalidNumber, InvalidOperation, TooMany
from crosswebs.webs.shades import dark_of
from crosswebs.webs.webs import check_web

MAX_SIDE = 9
MAX_COLOURINGS = 5000


def table_of(web):
    """The table of a web: a row and a column for each place but place 0."""
    check_web(web)
    rows = [[0] * web.many for _ in range(web.many)]
    for one, other, sign in web.ties:
        # For a loop all four changes fall on one number, and nothing is left of them.
        for place, far in ((one, other), (other, one)):
            rows[place][place] = rows[place][place] + sign
            rows[place][far] = rows[place][far] - sign
    return _as_table([row[1:] for row in rows[1:]])


def shortened(table):
    """The orders of a square table."""
    _check_table(table)
    return _orders_of_table(table)


def shortening(table):
    """Any shortening of a square table."""
    _check_table(table)
    left, _, right = _shorten(table)
    return (left, right)


def is_shortening(table, value):
    """Whether the value is a shortening of a square table, for numbers of whatever size."""
    _check_table(table)
    if not (isinstance(value, tuple) and len(value) == 2 and all([_is_square(part, len(table)) for part in value])):
        return False
    left, right = value
    if not (_is_invertible(left) and _is_invertible(right)):
        return False
    return _are_orders(_product_of(_product_of(left, table), right))


def class_orders(web):
    """The orders of the table of a web."""
    return _orders_of_table(table_of(web))


def orders_of(drawing):
    """The orders of any drawing."""
    check_drawing(drawing)
    tables = [table_of(dark_of(piece_at(drawing, index)).web) for index in range(len(drawing.pieces))]
    zeros = len(drawing.pieces) + drawing.rings - 1
    return _orders_of_table(_on_one_diagonal(tables + [((0,),)] * zeros))


def determinant(drawing):
    """The product of the orders of a drawing."""
    product = 1
    for order in orders_of(drawing):
        product = product * order
    return product


def over_runs(drawing):
    """The tuples of the strands that belong together at upper ends, and then one without strands for each free ring."""
    check_drawing(drawing)
    pairs = [(crossing[1], crossing[3]) for crossing in drawing.crossings]
    return classes_of(len(drawing.strands), pairs) + ((),) * drawing.rings


def count_colourings(drawing, many):
    """The number of all colourings modulo a number."""
    check_drawing(drawing)
    _check_modulus(many)
    product = many
    for order in orders_of(drawing):
        product = product * gcd(order, many)
    return product


def each_colouring(drawing, many):
    """All colourings modulo a number, ascending."""
    if count_colourings(drawing, many) > MAX_COLOURINGS:
        raise TooMany(MAX_COLOURINGS)
    steps = _colouring_steps(drawing, many)
    start = [0] * len(steps)
    for colouring in _each_from(steps, many, start, 0):
        yield colouring


def is_colouring(drawing, many, value):
    """Whether the value is a colouring modulo a number."""
    check_drawing(drawing)
    _check_modulus(many)
    runs = over_runs(drawing)
    if not (are_counts(value) and len(value) == len(runs) and all([part < many for part in value])):
        return False
    sums = [sum([factor * part for factor, part in zip(factors, value)]) for factors in _crossing_rows(drawing, runs)]
    return all([total % many == 0 for total in sums])


def _check_table(value):
    """Refuse what is no square table of integers that can be passed."""
    is_table = isinstance(value, tuple) and len(value) <= MAX_SIDE and _is_square(value, len(value))
    if not (is_table and all([is_integer(part) for row in value for part in row])):
        raise InvalidOperation("no square table")


def _check_modulus(value):
    """Refuse what is no integer of at least 1."""
    if not (is_count(value) and value > 0):
        raise InvalidNumber(value)


def _is_square(value, many):
    """Whether the value is a tuple of so many rows, each of them with as many integers, of whatever size."""
    if not (isinstance(value, tuple) and len(value) == many):
        return False
    if not all([isinstance(row, tuple) and len(row) == many for row in value]):
        return False
    return all([isinstance(part, int) and not isinstance(part, bool) for row in value for part in row])


def _as_table(rows):
    """Rows as a tuple of tuples."""
    return tuple([tuple(row) for row in rows])


def _turned_over(rows):
    """The columns of rows, as rows."""
    return [list(column) for column in zip(*rows)]


def _product_of(one, other):
    """The product of two square tables."""
    columns = _turned_over(other)
    return _as_table([[sum([a * b for a, b in zip(row, column)]) for column in columns] for row in one])


def _unit(many):
    """The rows of so many numbers that leave everything as it is."""
    return [[1 if at == place else 0 for at in range(many)] for place in range(many)]


def _on_one_diagonal(tables):
    """The square table that has all these tables on its diagonal."""
    rows = []
    for table in tables:
        rows = [row + [0] * len(table) for row in rows] + [[0] * len(rows) + list(row) for row in table]
    return _as_table(rows)


def _is_invertible(table):
    """Whether the determinant of a square table is 1 or -1."""
    return _in_steps([list(row) for row in table]) == _unit(len(table))


def _are_orders(table):
    """Whether a table has numbers on its diagonal alone, none below 0, each of which divides the next one."""
    numbers = [table[at][at] for at in range(len(table))]
    if not (_is_diagonal(table) and all([number >= 0 for number in numbers])):
        return False
    return all([_divides(one, other) for one, other in zip(numbers, numbers[1:])])


def _is_diagonal(rows):
    """Whether numbers other than 0 stand on the diagonal alone."""
    return not any([number != 0 for at, row in enumerate(rows) for place, number in enumerate(row) if at != place])


def _divides(one, other):
    """Whether an integer divides another one."""
    return other == 0 if one == 0 else other % one == 0


def _sum_of_rows(many, one, more, other):
    """So many times one row, and so many times another one, added."""
    return [many * a + more * b for a, b in zip(one, other)]


def _bezout(one, other):
    """The greatest common divisor of two integers, and how many of each give it, of the first one alone if it can."""
    if _divides(one, other):
        return (abs(one), -1 if one < 0 else 1, 0)
    low, high = (one, 1, 0), (other, 0, 1)
    while high[0] != 0:
        low, high = high, tuple(_sum_of_rows(1, low, -(low[0] // high[0]), high))
    return low if low[0] > 0 else tuple([-part for part in low])


def _first_place(row):
    """The place of the first number other than 0, None if there is none."""
    places = [place for place, number in enumerate(row) if number != 0]
    return places[0] if places else None


def _in_steps(rows):
    """Rows other than 0 that come from these by adding rows to other ones, each beginning behind the one ahead.

    Above the first number of each row stand lesser ones, none below 0; this also keeps all numbers short on the way.
    """
    steps = {}
    for row in rows:
        rest = row
        place = _first_place(rest)
        while place in steps:
            step = steps[place]
            divisor, many, more = _bezout(step[place], rest[place])
            steps[place] = _lessened(_sum_of_rows(many, step, more, rest), place, steps)
            rest = _sum_of_rows(step[place] // divisor, rest, -(rest[place] // divisor), step)
            rest = _lessened(rest, place, steps)
            place = _first_place(rest)
        if place is not None:
            steps[place] = rest if rest[place] > 0 else [-number for number in rest]
        for first in sorted(steps):
            steps[first] = _lessened(steps[first], first, steps)
    return [steps[first] for first in sorted(steps)]


def _lessened(row, place, steps):
    """A row that is less by multiples of the steps behind a place, so that it has lesser numbers where they begin."""
    rest = row
    for first in sorted(steps):
        if first > place and rest[first] // steps[first][first] != 0:
            rest = _sum_of_rows(1, rest, -(rest[first] // steps[first][first]), steps[first])
    return rest


def _beside(rows, kept):
    """Rows in steps, and what the same additions make of the rows that are kept beside them."""
    many = len(rows)
    both = _in_steps([list(row) + beside for row, beside in zip(rows, kept)])
    return ([row[:many] for row in both], [row[many:] for row in both])


def _lessened_both_ways(rows, left, right):
    """Rows behind additions of rows and then of columns, with what these make of both parts of a shortening."""
    halved, left_part = _beside(rows, left)
    columns, right_part = _beside(_turned_over(halved), right)
    return (_turned_over(columns), left_part, right_part)


def _shorten(table):
    """Both parts of a shortening of a table, and between them the numbers on the diagonal."""
    unit = _unit(len(table))
    # The right part is told by its columns, so that both are worked by rows.
    rows, left, right = _lessened_both_ways(table, unit, unit)
    while not _is_diagonal(rows):
        rows, left, right = _lessened_both_ways(rows, left, right)
    numbers = [rows[at][at] for at in range(len(rows))]
    for place in range(len(numbers)):
        for at in range(place):
            _make_divide(numbers, left, right, at, place)
    return (_as_table(left), numbers, _as_table(_turned_over(right)))


def _make_divide(numbers, left, right, at, place):
    """Put the greatest common divisor of two numbers on the diagonal at the former place, if it is another number."""
    one, other = numbers[at], numbers[place]
    if _divides(one, other):
        return
    divisor, many, more = _bezout(one, other)
    first, last = one // divisor, other // divisor
    numbers[at], numbers[place] = divisor, first * other
    told, beside = left[at], left[place]
    left[at], left[place] = _sum_of_rows(1, told, 1, beside), _sum_of_rows(-more * last, told, many * first, beside)
    told, beside = right[at], right[place]
    right[at], right[place] = _sum_of_rows(many, told, more, beside), _sum_of_rows(-last, told, first, beside)


def _orders_of_table(table):
    """The numbers other than 1 on the diagonal behind a shortening."""
    _, numbers, _ = _shorten(table)
    return tuple([number for number in numbers if number != 1])


def _crossing_rows(drawing, runs):
    """By crossings, how many times each over-run stands in the sum that is to be a multiple of the modulus."""
    places = {strand: place for place, run in enumerate(runs) for strand in run}
    rows = []
    for one, upper, other, _ in drawing.crossings:
        row = [0] * len(runs)
        row[places[upper]] = 2
        for strand in (one, other):
            row[places[strand]] = row[places[strand]] - 1
        rows.append(row)
    return rows


def _colouring_steps(drawing, many):
    """Rows of which all colourings are sums: one for each over-run, with zeros ahead of it."""
    runs = over_runs(drawing)
    factors = _crossing_rows(drawing, runs)
    multiples = [[many * part for part in unit] + [0] * len(runs) for unit in _unit(len(factors))]
    sums = [[row[place] for row in factors] + unit for place, unit in enumerate(_unit(len(runs)))]
    # In rows that begin behind all crossings, the sums of the crossings are multiples of the modulus.
    return [row[len(factors):] for row in _in_steps(multiples + sums) if _first_place(row) >= len(factors)]


def _each_from(steps, many, sums, at):
    """All colourings that are these sums up to a place, ascending."""
    if at == len(steps):
        yield tuple([number % many for number in sums])
        return
    after = at + 1
    for number in range(sums[at] % steps[at][at], many, steps[at][at]):
        longer = _sum_of_rows(1, sums, (number - sums[at]) // steps[at][at], steps[at])
        yield from _each_from(steps, many, longer, after)
