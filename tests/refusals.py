"""Checks that several tests share: wrong arguments, alone and together, and values that are wrong in one place."""

import inspect

from crosswebs.errors import InvalidNumber, ParseError
from tests.samples import WRONG


def wrong_but(*kinds, more=()):
    """Wrong values, without objects of some kinds."""
    return [value for value in WRONG if not isinstance(value, kinds)] + list(more)


def wrong_indices(many):
    """Wrong values for an index of so many; 1 and 0 as booleans are among them."""
    right = [value for value in WRONG if type(value) is int and 0 <= value < many]
    return [value for value in WRONG if value not in right] + [many, many + 1, -many - 1]


def check_refused(case, error, call, *values, kept=None):
    """The call raises just this error, and the error keeps what it is to keep."""
    with case.assertRaises(error) as caught:
        call(*values)
    case.assertIs(type(caught.exception), error, values)
    if error is InvalidNumber:
        case.assertIs(caught.exception.value, kept, values)
    if error is ParseError:
        case.assertIsNone(caught.exception.number)


def check_arguments(case, call, *arguments):
    """Each argument, told as (right values, wrong values, error), is refused if it is the first wrong one.

    Those ahead of it are right; those behind it are all right, or all wrong.
    """
    for place, (_, wrongs, error) in enumerate(arguments):
        ahead = [rights[0] for rights, _, _ in arguments[:place]]
        for turn, value in enumerate(wrongs):
            behind = [rights[turn % len(rights)] for rights, _, _ in arguments[place + 1:]]
            check_refused(case, error, call, *ahead, value, *behind, kept=value)
            behind = [others[turn % len(others)] for _, others, _ in arguments[place + 1:]]
            check_refused(case, error, call, *ahead, value, *behind, kept=value)


def check_generator(case, function, *arguments):
    """The function is a generator that raises its errors when its first result is asked for, and not before."""
    case.assertTrue(inspect.isgeneratorfunction(function))
    for place, (_, wrongs, _) in enumerate(arguments):
        made = function(*[rights[0] for rights, _, _ in arguments[:place]], wrongs[0],
                        *[rights[0] for rights, _, _ in arguments[place + 1:]])
        case.assertTrue(inspect.isgenerator(made))
    check_arguments(case, lambda *values: next(function(*values)), *arguments)


def broken(value):
    """Values that are like a right one, but have a part of a wrong kind, or one part more or less."""
    if isinstance(value, tuple):
        yield list(value)
        yield value + (0,)
        yield value + (value[0] if value else None,)
        yield value[1:] if value else None
        yield (value,)
        for place, part in enumerate(value):
            for other in broken(part):
                yield value[:place] + (other,) + value[place + 1:]
    elif isinstance(value, str):
        yield from (value + " ", value.upper(), value[:-1], "", None, 0, (value,), [value], {value: value})
    else:
        yield from (-value - 1, value + 10 ** 60, value - 10 ** 60, None, str(value), (value,), [value], {value: value})
        if value in (0, 1):
            yield bool(value)


def check_judged(case, judge, rights, wrongs=()):
    """The function says True of right values alone; not of wrong ones, or of those that are wrong in one place."""
    # Without a part, or with one more, a value can be right again; texts tell True and 1 apart.
    texts = {str(right) for right in rights}
    for value in rights:
        case.assertIs(judge(value), True, value)
        for other in broken(value):
            if str(other) not in texts:
                case.assertIs(judge(other), False, other)
    for value in list(WRONG) + list(wrongs):
        if str(value) not in texts:
            case.assertIs(judge(value), False, value)


def check_interface(case, made, properties, methods, classmethods=()):
    """The class itself defines all that is told, and an object of it never changes."""
    told = vars(type(made))
    for name in properties:
        case.assertIsInstance(told[name], property, name)
        case.assertFalse(inspect.isgenerator(getattr(made, name)), name)
        with case.assertRaises(AttributeError):
            setattr(made, name, getattr(made, name))
    for name in methods:
        case.assertTrue(inspect.isfunction(told[name]), name)
    for name in classmethods:
        case.assertIsInstance(told[name], classmethod, name)


def check_plain(case, value):
    """The value is an integer, a truth, a text or None, or a tuple of such."""
    if type(value) is tuple:
        for part in value:
            check_plain(case, part)
    else:
        case.assertIn(type(value), (int, bool, str, type(None)))


def check_equality(case, members, same, others=()):
    """Members are equal to their own copies alone, and to no other value at all."""
    for place, one in enumerate(members):
        for at, other in enumerate(members):
            case.assertIs(one == other, at == place)
            case.assertIs(one != other, at != place)
        copy = same(one)
        case.assertIsNot(copy, one)
        case.assertIs(one == copy, True)
        case.assertIs(one != copy, False)
        for value in [value for value in WRONG if not isinstance(value, type(one))] + list(others):
            case.assertIs(one == value, False)
            case.assertIs(value == one, False)
            case.assertIs(one != value, True)
            case.assertIs(value != one, True)
