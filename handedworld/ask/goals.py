"""Goals: whether a program reaches them or keeps to them, with papers that show it."""

from handedworld.reckon.books import (
    climb,
    fall,
    is_climb,
    is_closed,
    is_fall,
    is_supported,
    keep_book,
    reach_book,
)
from handedworld.reckon.checks import check_goal, check_program, fits_goal
from handedworld.reckon.plans import Plan
from handedworld.runs.runs import check_begin


def is_goal(program, value):
    """Whether the value is a goal of the program."""
    check_program(program)
    return fits_goal(program, value)


def reached(program, goal):
    """The set of the modes from which the program reaches the goal."""
    book = reach_book(program, goal)
    return Plan(program, goal).set_in(book)


def kept(program, goal):
    """The set of the modes from which the program keeps to the goal."""
    book = keep_book(program, goal)
    return Plan(program, goal).set_in(book)


def can_reach(program, start, goal):
    """Whether the program reaches the goal from a mode."""
    check_begin(program, start)
    return reached(program, goal) >> start & 1 == 1


def can_keep(program, start, goal):
    """Whether the program keeps to the goal from a mode."""
    check_begin(program, start)
    return kept(program, goal) >> start & 1 == 1


def reach_paper(program, start, goal):
    """A paper that shows whether the program reaches the goal from a mode."""
    books = climb(program, start, goal)
    if books is None:
        return ("closed", reach_book(program, goal))
    return ("climb", books)


def keep_paper(program, start, goal):
    """A paper that shows whether the program keeps to the goal from a mode."""
    books = fall(program, start, goal)
    if books is None:
        return ("supported", keep_book(program, goal))
    return ("fall", books)


def check_question(program, start, goal):
    """Refuses a wrong program, mode or goal."""
    check_begin(program, start)
    check_goal(program, goal)


def is_paper(value):
    """Whether the value is a pair of a word and something."""
    return isinstance(value, tuple) and len(value) == 2 and isinstance(value[0], str)


def is_reach_paper(program, start, goal, value):
    """Whether the value shows that the goal is reached from a mode, or that it is not."""
    check_question(program, start, goal)
    if not is_paper(value):
        return False
    if value[0] == "climb":
        return is_climb(program, start, goal, value[1])
    return value[0] == "closed" and is_closed(program, start, goal, value[1])


def is_keep_paper(program, start, goal, value):
    """Whether the value shows that the goal is kept to from a mode, or that it is not."""
    check_question(program, start, goal)
    if not is_paper(value):
        return False
    if value[0] == "fall":
        return is_fall(program, start, goal, value[1])
    return value[0] == "supported" and is_supported(program, start, goal, value[1])
