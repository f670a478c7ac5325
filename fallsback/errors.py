"""The errors of the package."""


class FallError(ValueError):
    """The base of the errors that tell what a value should have been."""


class InvalidWord(FallError):
    """A name is no word."""


class InvalidMachine(FallError):
    """There is no such machine."""


class InvalidProgram(FallError):
    """There is no such program."""


class InvalidRun(FallError):
    """The step with this index is none, or is not possible there."""

    def __init__(self, index):
        self.index = index


class InvalidLine(FallError):
    """There is no such line."""


class InvalidOperation(FallError):
    """The call is not possible with these values."""


class ParseError(FallError):
    """The line with this index cannot be read."""

    def __init__(self, line):
        self.line = line


class InvalidNumber(IndexError):
    """The value is no number that can stand there."""

    def __init__(self, value):
        self.value = value

    def __str__(self):
        return repr(self.value)


class UnknownName(KeyError):
    """Nothing has this name."""

    def __init__(self, name):
        self.name = name

    def __str__(self):
        return repr(self.name)


class TooMany(OverflowError):
    """There are more than this limit."""

    def __init__(self, limit):
        self.limit = limit


class NothingToUndo(LookupError):
    """Fewer than so many calls can be undone or done again."""

    def __init__(self, many):
        self.many = many


class Needed(ArithmeticError):
    """The place is needed."""

    def __init__(self, place):
        self.place = place
