"""Rows: sums of integers times powers of one letter, whose exponents can be below 0."""

from crosswebs.base.parts import sums_of
from crosswebs.base.words import MAX_FIGURES, is_integer, is_sign
from crosswebs.errors import InvalidNumber, InvalidOperation, InvalidRow, ParseError, TooMany

MAX_POWER = 10000
_MAX_RAISED = 100
_CHUNK_FIGURES = 60
_CHUNK = 10 ** 60


class Row:
    """A sum of integers times powers of x; it never changes."""

    def __init__(self, terms):
        if not _are_terms(terms):
            raise InvalidRow("no dict from exponents to integers other than 0")
        self._terms = {exponent: terms[exponent] for exponent in sorted(terms)}

    @classmethod
    def power(cls, exponent, *, many=1):
        """So many times the power of x with an exponent."""
        if not (_is_exponent(exponent) and is_integer(many)):
            raise InvalidRow("no exponent, or no integer")
        return cls({exponent: many} if many != 0 else {})

    @classmethod
    def none(cls):
        """The row 0."""
        return cls({})

    @classmethod
    def of_text(cls, text):
        """The row with a text."""
        if not is_text(text):
            raise ParseError(None)
        return cls(_terms_in(text))

    @property
    def terms(self):
        """The dict of the terms, by ascending exponents."""
        return {exponent: self._terms[exponent] for exponent in self._terms}

    @property
    def low(self):
        """The least exponent, None for the row 0."""
        return min(self._terms, default=None)

    @property
    def high(self):
        """The greatest exponent, None for the row 0."""
        return max(self._terms, default=None)

    @property
    def span(self):
        """The greatest exponent less the least one, None for the row 0."""
        return max(self._terms) - min(self._terms) if self._terms else None

    @property
    def turned(self):
        """The row with 1 / x in the place of x."""
        return row_of({-exponent: self._terms[exponent] for exponent in self._terms})

    def shifted(self, many):
        """The row times the power of x with an exponent."""
        if not is_integer(many):
            raise InvalidNumber(many)
        return row_of({exponent + many: self._terms[exponent] for exponent in self._terms})

    def spread(self, many):
        """The row with a power of x in the place of x."""
        if not is_integer(many) or many == 0:
            raise InvalidNumber(many)
        return row_of({exponent * many: self._terms[exponent] for exponent in self._terms})

    def at(self, value):
        """What comes of the row if x is 1 or -1."""
        if not is_sign(value):
            raise InvalidNumber(value)
        parts = [self._terms[exponent] * (value if exponent % 2 == 1 else 1) for exponent in self._terms]
        return sum(parts)

    def raised(self, many):
        """The product of so many equal rows, or what gives 1 with that product."""
        if not (is_integer(many) and abs(many) <= _MAX_RAISED):
            raise InvalidNumber(many)
        if many < 0 and not _is_plain_power(self._terms):
            raise InvalidOperation("only a power of x with 1 or -1 has such a row")
        base = self.turned if many < 0 else self
        _check_exponents([exponent * abs(many) for exponent in base._terms])
        product = Row({0: 1})
        for _ in range(abs(many)):
            product = product * base
        return product

    def quotient(self, other):
        """The row whose product with another one is this row."""
        check_row(other)
        terms = _quotient_of(self._terms, other._terms)
        if terms is None:
            raise InvalidOperation("there is no such row")
        return row_of(terms)

    def __add__(self, other):
        terms = _terms_told(other)
        if terms is None:
            return NotImplemented
        return row_of(sums_of(self._terms, terms))

    def __sub__(self, other):
        terms = _terms_told(other)
        if terms is None:
            return NotImplemented
        return row_of(sums_of(self._terms, _product_of(terms, {0: -1})))

    def __mul__(self, other):
        terms = _terms_told(other)
        if terms is None:
            return NotImplemented
        return row_of(_product_of(self._terms, terms))

    def __neg__(self):
        return row_of(_product_of(self._terms, {0: -1}))

    def __getitem__(self, exponent):
        if not is_integer(exponent):
            raise InvalidNumber(exponent)
        return self._terms.get(exponent, 0)

    def __contains__(self, value):
        return is_integer(value) and value in self._terms

    def __len__(self):
        return len(self._terms)

    def __iter__(self):
        return iter(self._terms.items())

    def __eq__(self, other):
        return isinstance(other, Row) and self._terms == other._terms

    def __str__(self):
        return str(_text_of(self._terms))


def check_row(value):
    """Refuse what is no row."""
    if not isinstance(value, Row):
        raise InvalidRow("no row")


def is_text(value):
    """Whether the value is the text of a row that can be made of a dict."""
    terms = _terms_in(value)
    # The terms are read generously; a row has just one text, so comparing refuses all others.
    return _are_terms(terms) and str(Row(terms)) == value


def row_of(terms):
    """The row of terms that were worked out: in any order, some perhaps 0, with integers of any length."""
    left = {exponent: terms[exponent] for exponent in sorted(terms) if terms[exponent] != 0}
    _check_exponents(left)
    row = Row({})
    row._terms = left
    return row


def _is_exponent(value):
    """Whether the value is an integer that can be an exponent."""
    return is_integer(value) and abs(value) <= MAX_POWER


def _are_terms(value):
    """Whether the value is a dict from exponents to integers other than 0."""
    if not isinstance(value, dict):
        return False
    return all([_is_exponent(part) and is_integer(value[part]) and value[part] != 0 for part in value])


def _check_exponents(exponents):
    """Refuse exponents beyond the limit."""
    if any([abs(exponent) > MAX_POWER for exponent in exponents]):
        raise TooMany(MAX_POWER)


def _terms_told(value):
    """The terms of a row, or of an integer as a row; None for other values."""
    if isinstance(value, Row):
        return value._terms
    return {0: value} if is_integer(value) else None


def _product_of(one, other):
    """The terms of a product, some of them perhaps 0."""
    if one and other:
        # Asked ahead, as the product of two long rows takes long.
        _check_exponents([min(one) + min(other), max(one) + max(other)])
    terms = {}
    for exponent in one:
        for step in other:
            terms[exponent + step] = terms.get(exponent + step, 0) + one[exponent] * other[step]
    return terms


def _is_plain_power(terms):
    """Whether the terms are a power of x with 1 or -1 alone."""
    return len(terms) == 1 and all([abs(terms[exponent]) == 1 for exponent in terms])


def _quotient_of(terms, divisor):
    """The terms whose product with those of the divisor are these terms; None if there are none."""
    if not divisor or not terms:
        return {} if divisor else None
    lowest, first = min(terms), min(divisor)
    rest = [terms.get(exponent, 0) for exponent in range(lowest, max(terms) + 1)]
    reach = len(rest) - 1 - (max(divisor) - first)
    if reach < 0:
        return None
    # No divisor of a row has greater integers (Mignotte's bound); without it they could grow without end.
    most = (1 << reach) * sum([abs(many) for many in rest])
    steps = [(exponent - first, divisor[exponent]) for exponent in divisor]
    found = {}
    for at in range(reach + 1):
        many, left = divmod(rest[at], divisor[first])
        if left != 0 or abs(many) > most:
            return None
        if many != 0:
            found[lowest - first + at] = many
            for step, part in steps:
                rest[at + step] = rest[at + step] - many * part
    return None if any(rest) else found


def _text_of(terms):
    """The text of terms by ascending exponents."""
    words = []
    for exponent in terms:
        sign = "-" if terms[exponent] < 0 else "+"
        words.append(f" {sign} " if words else sign.replace("+", ""))
        words.append(_term_text(exponent, abs(terms[exponent])))
    return "".join(words) if words else "0"


def _term_text(exponent, many):
    """The text of a term without its sign."""
    if exponent == 0:
        return _figures_of(many)
    figures = "" if many == 1 else _figures_of(many)
    return f"{figures}x" if exponent == 1 else f"{figures}x^{exponent}"


def _figures_of(number):
    """The figures of an integer of at least 0."""
    # Python writes out only some thousand figures at once, and powers of rows can have more.
    chunks = []
    while number >= _CHUNK:
        chunks.append(str(number % _CHUNK).zfill(_CHUNK_FIGURES))
        number = number // _CHUNK
    chunks.append(str(number))
    return "".join(chunks[::-1])


def _terms_in(text):
    """Terms that are told by a text if it is the text of a row; None if a part of it is no term."""
    if not isinstance(text, str):
        return None
    if text == "0":
        return {}
    words = f"- {text[1:]}" if text.startswith("-") else f"+ {text}"
    parts = words.split(" ")
    terms = {}
    for sign, part in zip(parts[::2], parts[1::2]):
        figures, letter, tail = part.partition("x")
        many = _number_in(figures if figures else "1")
        exponent = _exponent_in(tail) if letter else 0
        if many is None or exponent is None:
            return None
        terms[exponent] = -many if sign == "-" else many
    return terms


def _exponent_in(tail):
    """The exponent that is told behind the letter of a term, None if there is none."""
    return _number_in(tail[1:]) if tail else 1


def _number_in(text):
    """The integer that is written so, perhaps with `-` ahead; None if there is none, or it is too long."""
    figures = text.removeprefix("-")
    if not (figures.isascii() and figures.isdigit() and len(figures) <= MAX_FIGURES):
        return None
    return int(text)
