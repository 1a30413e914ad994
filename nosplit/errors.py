"""The errors of the package, each directly under one of Python's own."""


class NoNumber(LookupError):
    """A number that ought to tell one of several, and tells none."""

    def __init__(self, number):
        self.number = number


class NoRow(LookupError):
    """A string that ought to be a ROW that is there, and is none."""

    def __init__(self, row):
        self.row = row


class BadLine(ValueError):
    """A line, told by its number, that can not stand where it stands."""

    def __init__(self, number):
        self.number = number


class Barred(ValueError):
    """A move, told by its number, that the store does not let."""

    def __init__(self, number):
        self.number = number


class CanNot(ValueError):
    """What is asked for is not to be had."""


class Held(ValueError):
    """A ROW that the open worker with this number has written."""

    def __init__(self, number):
        self.number = number


class Late(ValueError):
    """A ROW that the worker with this number wrote, and committed, meanwhile."""

    def __init__(self, number):
        self.number = number


class Pinched(ValueError):
    """A commit by which there would be a pinch."""


class Twice(ValueError):
    """A ROW that is there already."""

    def __init__(self, row):
        self.row = row


class Unfit(ValueError):
    """Values that do not fit one another."""
