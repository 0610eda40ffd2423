"""The errors of the package."""


class HandError(ValueError):
    """Something that was passed is wrong."""


class InvalidProgram(HandError):
    """What was passed is no program, or no part of one."""


class InvalidMeaning(HandError):
    """What was passed is no map, or not made of sets and maps as it has to be."""


class InvalidGoal(HandError):
    """What was passed is no goal of the program."""


class InvalidOperation(HandError):
    """What was asked for cannot be done."""


class InvalidCommand(HandError):
    """What was passed is no command."""


class ParseError(HandError):
    """A line of a text has not the form of its place."""

    def __init__(self, line):
        self.line = line


class UnknownName(KeyError):
    """Nothing has this name."""

    def __init__(self, name):
        self.name = name


class InvalidNumber(IndexError):
    """What was passed is no number of this kind."""

    def __init__(self, value):
        self.value = value


class NothingToUndo(LookupError):
    """There are not so many calls to take back or to do again."""

    def __init__(self, many):
        self.many = many


class Refused(ArithmeticError):
    """The promise with this name would not be kept."""

    def __init__(self, name):
        self.name = name


class TooMany(OverflowError):
    """There would be more than the limit allows."""

    def __init__(self, limit):
        self.limit = limit
