"""All errors of the package."""


class CheckError(ValueError):
    """What the errors that take a message have in common, and ParseError."""


class InvalidWord(CheckError):
    """A value is no word of the length, or no tuple of such words."""


class InvalidCode(CheckError):
    """A value is no code, or none of the required kind."""


class InvalidOperation(CheckError):
    """Values do not go together, or do not have the required form."""


class InvalidCounts(CheckError):
    """A value is no tuple of counts."""


class InvalidText(CheckError):
    """A value is no text, or no name, of the required form."""


class InvalidClaim(CheckError):
    """A value is no claim."""


class ParseError(CheckError):
    """A text can't be read on at a spot."""

    def __init__(self, spot):
        self.spot = spot


class InvalidNumber(IndexError):
    """A given value is no integer in the required range."""

    def __init__(self, given):
        self.given = given


class UnknownName(KeyError):
    """Nothing has the wanted name."""

    def __init__(self, wanted):
        self.wanted = wanted


class TooMany(OverflowError):
    """More would come than a limit allows."""

    def __init__(self, limit):
        self.limit = limit


class NothingToUndo(LookupError):
    """There is nothing to undo, or to redo."""

    def __init__(self, done):
        self.done = done


class Refused(ArithmeticError):
    """A call is refused for a reason, a tuple whose first member is a word."""

    def __init__(self, reason):
        self.reason = reason
