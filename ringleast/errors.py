"""The errors of the package: three bases, and the errors that are raised.

The messages of errors with a field are fixed: a field may hold any value, also one that cannot be shown.
"""


class RingError(ValueError):
    """The base of the errors about invalid values."""


class BadRank(RingError):
    """A value is not a rank."""


class BadLetter(RingError):
    """A value is not a letter, or not a letter set that is allowed."""


class BadWord(RingError):
    """A value is not a word, or not a string of letters."""


class BadRow(RingError):
    """A value is not a row."""


class BadSubstitution(RingError):
    """A value is not a substitution."""


class BadStep(RingError):
    """A value is not a step, or not a route."""

    def __init__(self, index):
        super().__init__("not a step of the rank")
        self.index = index


class BadTables(RingError):
    """A value is not a tuple of tables."""


class BadPair(RingError):
    """A value is not a pair."""


class BadSize(RingError):
    """A value is not a size."""


class BadText(RingError):
    """A text has an invalid line."""

    def __init__(self, line):
        super().__init__("the text has an invalid line")
        self.line = line


class LimitError(ArithmeticError):
    """The base of the errors about limits."""


class TooLong(LimitError):
    """A result has too many letters."""

    def __init__(self, limit):
        super().__init__("too many letters")
        self.limit = limit


class TooLarge(LimitError):
    """A value is above a limit of the function."""

    def __init__(self, limit):
        super().__init__("above the limit")
        self.limit = limit


class MissingError(LookupError):
    """The base of the errors about results that do not exist."""


class NotInvertible(MissingError):
    """A substitution is not an automorphism."""


class NotMinimal(MissingError):
    """A row is not minimal."""

    def __init__(self, move):
        super().__init__("a move decreases the length of the row")
        self.move = move
