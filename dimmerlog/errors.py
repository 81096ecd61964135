"""All errors of the program."""


class DimmerError(ValueError):
    """The base class of all errors of the program."""


class InvalidName(DimmerError):
    """A value that is not a name."""

    def __init__(self, name):
        self.name = name


class DuplicateName(DimmerError):
    """A name that was given before."""

    def __init__(self, name):
        self.name = name


class UnknownName(DimmerError):
    """A value that is none of the names that are there."""

    def __init__(self, name):
        self.name = name


class InvalidNote(DimmerError):
    """A note, or a pair of looks, whose two names are equal."""

    def __init__(self, before, after):
        self.before = before
        self.after = after


class InvalidLine(DimmerError):
    """A wrong line of a text, counted from 1."""

    def __init__(self, line):
        self.line = line


class TooMany(DimmerError):
    """More than the limit allows."""

    def __init__(self, limit):
        self.limit = limit


class NoOrder(DimmerError):
    """No order is possible; the bar or the ring shows why."""

    def __init__(self, bar, ring):
        self.bar = bar
        self.ring = ring


class InvalidOrder(DimmerError):
    """An order that does not have each look of a table exactly once."""
