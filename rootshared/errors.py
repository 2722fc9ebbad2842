"""The errors of the whole program."""


class RootError(ValueError):
    """Something that is passed is not what is asked for."""


class InvalidWeb(RootError):
    """No web, or none that fits."""


class InvalidPool(RootError):
    """No pool, or none that fits."""


class InvalidGroup(RootError):
    """No group of the pool."""


class InvalidWord(RootError):
    """No word of the pool."""


class InvalidProgram(RootError):
    """No program."""


class InvalidInputs(RootError):
    """No inputs for all houses."""


class InvalidName(RootError):
    """No name."""


class InvalidOperation(RootError):
    """What is asked for cannot be done here."""


class ParseError(RootError):
    """A text that cannot be read; `at` is the index of the first wrong piece, or None."""

    def __init__(self, at):
        self.at = at


class InvalidNumber(IndexError):
    """The number `given` is not let here, or is no number."""

    def __init__(self, given):
        self.given = given


class UnknownName(KeyError):
    """Nothing has the name `wanted`."""

    def __init__(self, wanted):
        self.wanted = wanted


class NothingToUndo(LookupError):
    """There are fewer than `many` changes to take back."""

    def __init__(self, many):
        self.many = many


class TooMany(OverflowError):
    """There would be more than `limit`."""

    def __init__(self, limit):
        self.limit = limit


class Refused(ArithmeticError):
    """The `claim` stands against it."""

    def __init__(self, claim):
        self.claim = claim
