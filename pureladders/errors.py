"""The errors of the package.

Those that keep a value pass nothing on to their base class: so their text is
that of the value that they were made with.
"""


class LadderError(ValueError):
    """A value that is not of the kind that was asked for."""


class InvalidProduct(LadderError):
    """No product, or one in another number of letters."""


class InvalidLot(LadderError):
    """No lot, or nothing that a lot can be made of."""


class InvalidFamily(LadderError):
    """No family, or nothing that a family can be made of."""


class InvalidTable(LadderError):
    """No table, or nothing that a table can be made of."""


class InvalidLadder(LadderError):
    """No ladder, or nothing that a ladder can be made of."""


class InvalidDegrees(LadderError):
    """No pure degrees."""


class InvalidRow(LadderError):
    """No row of integers from 0 on."""


class InvalidOperation(LadderError):
    """An argument that the operation does not take."""


class ParseError(LadderError):
    """A text that is not the text of a value; it keeps the spot."""

    def __init__(self, spot):
        self.spot = spot


class InvalidNumber(IndexError):
    """A value that is no integer, or one out of its bounds; it keeps the value."""

    def __init__(self, given):
        self.given = given


class UnknownName(KeyError):
    """A name that stands for nothing; it keeps what was wanted."""

    def __init__(self, wanted):
        self.wanted = wanted


class NothingToUndo(LookupError):
    """Fewer moves than are to be taken back; it keeps the steps."""

    def __init__(self, steps):
        self.steps = steps


class TooMany(OverflowError):
    """More than there may be; it keeps the most that there may be."""

    def __init__(self, most):
        self.most = most


class Refused(ArithmeticError):
    """What cannot be done with these values; it keeps the reason."""

    def __init__(self, reason):
        self.reason = reason
