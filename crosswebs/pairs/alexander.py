"""Alexander's row, the Conway row, and the signature of a course."""

from math import comb

from crosswebs.base.rows import Row, check_row, row_of
from crosswebs.base.words import check_index
from crosswebs.draw.courses import check_course
from crosswebs.draw.drawings import check_one_piece
from crosswebs.errors import InvalidOperation
from crosswebs.group.groups import table_of
from crosswebs.pairs.pairings import each_pairing
from crosswebs.webs.shades import dark_of, dark_rims, light_of, light_rims

_MAX_POWERED = 100


def weight_at(course, crossing, corner):
    """The weight of a corner of a crossing."""
    check_course(course)
    check_index(crossing, len(course))
    check_index(corner, 4)
    sign = course.signs[crossing]
    behind = (corner - _closing_corner(course, crossing)) % 4
    if behind == 0:
        return Row.power(sign)
    return Row.power(-sign, many=-1) if behind == 2 else Row.power(0)


def alexander_row(course, *, strand=0):
    """Alexander's row of a course in one piece, with a strand that is left out."""
    check_course(course)
    drawing = course.drawing
    check_one_piece(drawing)
    check_index(strand, len(drawing.strands))
    weights = [[weight_at(course, at, number) for number in range(4)] for at in range(len(drawing))]
    total = Row.none()
    for pairing in each_pairing(drawing, strand):
        product = Row.power(0)
        for at, number in enumerate(pairing):
            product = product * weights[at][number]
        total = total + product
    return total


def conway_row(course):
    """The Conway row of a course, whatever its drawing."""
    check_course(course)
    drawing = course.drawing
    if len(drawing.pieces) + drawing.rings > 1:
        return Row.none()
    return Row.power(0) if len(drawing) == 0 else _out_of_powers(alexander_row(course))


def in_powers(row):
    """The row with `x - x^-1` in the place of x."""
    check_row(row)
    if len(row) > 0 and not (row.low >= 0 and row.high <= _MAX_POWERED):
        raise InvalidOperation("an exponent is negative, or too great")
    terms = {}
    for exponent, many in row:
        for at in range(exponent + 1):
            part = many * comb(exponent, at) * (-1 if at % 2 == 1 else 1)
            terms[exponent - 2 * at] = terms.get(exponent - 2 * at, 0) + part
    return row_of(terms)


def determinant_told(row):
    """What comes of a row of even or of odd exponents alone if -4 stands for the square of x, without the sign."""
    check_row(row)
    odd = [exponent % 2 for exponent, _ in row]
    if len(row) > 0 and (row.low < 0 or len(set(odd)) == 2):
        raise InvalidOperation("negative exponents, or even and odd ones")
    # Twice the power of -4 with the half of what is left of an odd exponent is the power of 2 with the exponent, too.
    return abs(sum([many * (1 << exponent) * (-1 if exponent // 2 % 2 == 1 else 1) for exponent, many in row]))


def signature(course, *, light=False):
    """The signature of a course in one piece, by its dark or by its light web."""
    check_course(course)
    drawing = course.drawing
    check_one_piece(drawing)
    if not isinstance(light, bool):
        raise InvalidOperation("light is neither True nor False")
    web = light_of(drawing).web if light else dark_of(drawing).web
    far_rims = dark_rims(drawing) if light else light_rims(drawing)
    far = [corner for rim in far_rims for corner in rim]
    opening = [(at, (_closing_corner(course, at) + 2) % 4) for at in range(len(drawing))]
    opening_far = sum([sign for sign, corner in zip(web.signs, opening) if corner in far])
    return opening_far - _signature_of(table_of(web))


def _closing_corner(course, crossing):
    """The number of the corner between both ends of a crossing at which one comes in."""
    into = [(crossing, number) in course for number in range(4)]
    return [into[number] and into[(number + 1) % 4] for number in range(4)].index(True)


def _out_of_powers(row):
    """The row that is this one with `x - x^-1` in the place of x."""
    told = Row.none()
    rest = row
    while len(rest) > 0:
        part = Row.power(rest.high, many=rest[rest.high])
        told = told + part
        rest = rest - in_powers(part)
    return told


def _signature_of(table):
    """The signature of a table of integers that is the same when rows and columns are exchanged."""
    total = 0
    rows = [list(row) for row in table]
    while any([number != 0 for row in rows for number in row]):
        rows = _with_first_number(rows)
        total = total + (1 if rows[0][0] > 0 else -1)
        rows = _without_first(rows)
    return total


def _with_first_number(rows):
    """A table with the same signature, which is not 0, and with a number other than 0 in its first place."""
    diagonal = [at for at in range(len(rows)) if rows[at][at] != 0]
    if diagonal:
        return _exchanged(rows, diagonal[0])
    numbers = [(at, place) for at, row in enumerate(rows) for place, number in enumerate(row) if number != 0]
    first, last = numbers[0]
    # With zeros on the diagonal, the sum of two rows, and of their columns, has twice this number there.
    taller = rows[:first] + [_added(rows[first], rows[last])] + rows[first + 1:]
    both = [row[:first] + [row[first] + row[last]] + row[first + 1:] for row in taller]
    return _exchanged(both, first)


def _added(row, beside):
    """The sum of two rows of a table."""
    return [number + other for number, other in zip(row, beside)]


def _exchanged(rows, at):
    """The table with a row and its column at the first place."""
    order = [at] + [place for place in range(len(rows)) if place != at]
    return [[rows[one][other] for other in order] for one in order]


def _without_first(rows):
    """What is left of a table behind its first row and column are taken off the others, times a number above 0."""
    first = rows[0][0]
    size, sign = abs(first), 1 if first > 0 else -1
    return [[size * number - sign * row[0] * other for number, other in zip(row[1:], rows[0][1:])] for row in rows[1:]]
