"""What counts as an integer, as an index, as a sign, and as a number in a line."""

from crosswebs.errors import InvalidNumber

MAX_FIGURES = 60
# A power has to be written with a literal exponent, so MAX_FIGURES cannot stand in it.
_TOO_LONG = 10 ** 60


def is_integer(value):
    """Whether the value is an integer of at most sixty digits."""
    return isinstance(value, int) and not isinstance(value, bool) and abs(value) < _TOO_LONG


def is_count(value):
    """Whether the value is an integer of at least 0."""
    return is_integer(value) and value >= 0


def are_counts(value):
    """Whether the value is a tuple of integers of at least 0, perhaps an empty one."""
    return isinstance(value, tuple) and all([is_count(part) for part in value])


def is_sign(value):
    """Whether the value is 1 or -1."""
    return is_integer(value) and abs(value) == 1


def are_signs(value, many):
    """Whether the value is a tuple of so many signs."""
    return isinstance(value, tuple) and len(value) == many and all([is_sign(part) for part in value])


def check_index(value, many):
    """Refuse what is no index of one of so many."""
    if not (is_count(value) and value < many):
        raise InvalidNumber(value)


def is_line_number(value):
    """Whether the value is the text of a number of at most two digits, without zeros ahead."""
    if not (isinstance(value, str) and value.isascii() and value.isdigit()):
        return False
    return len(value) == 1 or (len(value) == 2 and value[0] != "0")
