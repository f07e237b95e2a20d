"""The errors that end a call early; desk tells each one's number."""


class OutOfRange(Exception):
    """A place isn't one of the six, or another number is out of its range."""


class BadList(Exception):
    """A list isn't of the form that its call asks for."""


class TooManyLines(Exception):
    """A code has more lines than are allowed."""


class NotEarlier(Exception):
    """A line uses a line that isn't earlier, or an input that isn't there."""


class SizesDontFit(Exception):
    """The tables' sizes don't fit the call."""


class FaultyRun(Exception):
    """A line of the code divides by 0, or its value is too heavy."""


class DontHold(Exception):
    """The equations don't hold at these unknowns and parameters."""


class NoResult(Exception):
    """A table has no inverse, or an entry that must be whole isn't."""


class TooLarge(Exception):
    """A table has too many rows or columns, or a fraction is too heavy."""
