"""The errors of the package, one class for each kind of failure."""


class CrossError(ValueError):
    """What all errors about a wrong value or a wrong call have in common."""


class InvalidRow(CrossError):
    """A value is no row."""


class InvalidDrawing(CrossError):
    """A value is no drawing."""


class InvalidEnd(CrossError):
    """A value is no end, or no corner."""


class InvalidMove(CrossError):
    """A value is no move of a drawing."""


class InvalidCourse(CrossError):
    """A value is no course."""


class InvalidWeb(CrossError):
    """A value is no web."""


class InvalidShade(CrossError):
    """A value is no shade."""


class InvalidSmoothing(CrossError):
    """A value is no smoothing of a drawing."""


class InvalidOrder(CrossError):
    """A value is no order of the ties of a web."""


class InvalidTree(CrossError):
    """A value is no joining tree of a web."""


class InvalidPaper(CrossError):
    """A value is no tree paper of a web."""


class InvalidPairing(CrossError):
    """A value is no pairing of crossings and rims."""


class InvalidMatching(CrossError):
    """A value is no matching of two drawings."""


class InvalidColouring(CrossError):
    """A value is no colouring."""


class InvalidOperation(CrossError):
    """What is asked for cannot be done here."""


class ParseError(CrossError):
    """A text is not of the form that is told; keeps the index of its line, or None."""

    def __init__(self, number):
        self.number = number


class InvalidNumber(IndexError):
    """A value is no such number, or no such index; keeps the value."""

    def __init__(self, value):
        self.value = value


class NothingToUndo(RuntimeError):
    """There are fewer changes than should be taken back or done again; keeps how many were asked."""

    def __init__(self, asked):
        self.asked = asked


class TooMany(OverflowError):
    """A result would be beyond a limit; keeps the limit."""

    def __init__(self, limit):
        self.limit = limit


class Refused(ArithmeticError):
    """A change would break a pledge; keeps the pledge."""

    def __init__(self, pledge):
        self.pledge = pledge
