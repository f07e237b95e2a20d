"""The errors that end a call early; desk tells each one's number."""


class OutOfRange(Exception):
    """A place isn't one of the six, or another number is out of its range."""


class BadList(Exception):
    """A list isn't of the form that its call asks for."""


class SizesDontFit(Exception):
    """The tables' sizes don't fit the call."""


class TooLarge(Exception):
    """A table has too many rows or columns, or a fraction is too heavy."""
