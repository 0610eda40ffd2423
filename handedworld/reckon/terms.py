"""Contexts, and what is reckoned and needed in them."""

from handedworld.base.frees import free_table
from handedworld.errors import InvalidMeaning, InvalidNumber, InvalidOperation
from handedworld.maps.sets import fits_set
from handedworld.reckon.checks import check_goal, check_program, fits_book, fits_context
from handedworld.reckon.plans import Plan
from handedworld.reckon.reckoner import Reckoner


def is_context(program, value):
    """Whether the value is a context of the program."""
    check_program(program)
    return fits_context(program, free_table(program), value)


def beginning(program, goal):
    """The context of main in which no signal is answered, but comes to the goal if it is it."""
    check_program(program)
    check_goal(program, goal)
    return Plan(program, goal).first()


def reckoner_of(program, context, goal, book, rest):
    """The reckoner for these arguments, if all of them are right."""
    check_program(program)
    frees = free_table(program)
    if not fits_context(program, frees, context):
        raise InvalidOperation("this is no context of the program")
    check_goal(program, goal)
    if not fits_book(program, frees, book):
        raise InvalidMeaning("this is no book of the program")
    if not fits_set(program.modes, rest):
        raise InvalidNumber(rest)
    return Reckoner(Plan(program, goal), context, book, rest)


def reckoned(program, context, goal, book, *, rest=0):
    """The reckoned map of a context, by a book."""
    return reckoner_of(program, context, goal, book, rest).whole()


def needed(program, context, goal, book, *, rest=0):
    """The ascending tuple of the contexts for which the book is asked in reckoning one."""
    reckoner = reckoner_of(program, context, goal, book, rest)
    reckoner.whole()
    return tuple(sorted(list(reckoner.asked)))
