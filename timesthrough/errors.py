"""The errors of the package."""


class ThroughError(ValueError):
    """What the errors of values that are refused derive from."""

    def __init__(self, told):
        self.told = told


class InvalidRow(ThroughError):
    """No row, or one with a number of points that is not let."""


class InvalidWord(ThroughError):
    """No word of moves."""


class InvalidMap(ThroughError):
    """No map of rows."""


class InvalidTable(ThroughError):
    """No table of rests, or no goal of one."""


class InvalidPoints(ThroughError):
    """No points over a prime."""


class InvalidForm(ThroughError):
    """No form, or forms that do not fit together."""


class InvalidLot(ThroughError):
    """No lot of exceptional rows."""


class InvalidName(ThroughError):
    """No names of rows."""


class InvalidWeights(ThroughError):
    """No weights."""


class InvalidOperation(ThroughError):
    """What cannot be done with this value."""


class ParseError(ThroughError):
    """A text that cannot be read; it keeps the spot."""

    def __init__(self, spot):
        ThroughError.__init__(self, spot)
        self.spot = spot


class InvalidNumber(IndexError):
    """An integer that is not let; it keeps what was given."""

    def __init__(self, given):
        self.given = given


class UnknownName(KeyError):
    """A name that is not there; it keeps what was asked."""

    def __init__(self, asked):
        self.asked = asked


class NothingToUndo(LookupError):
    """Fewer calls than are to be undone; it keeps how many."""

    def __init__(self, many):
        self.many = many


class TooMany(OverflowError):
    """More than the limit lets, which it keeps."""

    def __init__(self, limit):
        self.limit = limit


class Refused(ArithmeticError):
    """What is refused for a reason, which it keeps."""

    def __init__(self, reason):
        self.reason = reason
