"""Books: the least and the greatest maps, and papers that show what is reached and kept to."""

from handedworld.base.frees import free_table
from handedworld.errors import InvalidOperation
from handedworld.maps.sets import is_rising, map_within
from handedworld.reckon.checks import check_goal, check_program, fits_book, fits_context
from handedworld.reckon.extremes import greatest_book, least_book
from handedworld.reckon.ladders import ladder_books
from handedworld.reckon.plans import Plan
from handedworld.reckon.reckoner import Reckoner
from handedworld.runs.runs import check_begin

MAX_CONTEXTS = 800


def plan_of(program, goal):
    """The program laid out for the goal, if both are right."""
    check_program(program)
    check_goal(program, goal)
    return Plan(program, goal)


def plan_from(program, start, goal):
    """The same, with a mode to begin in, which has to be right, too."""
    check_begin(program, start)
    check_goal(program, goal)
    return Plan(program, goal)


def reach_book(program, goal):
    """The book of the least maps of the beginning and of all contexts that are needed from it on."""
    plan = plan_of(program, goal)
    return least_book(plan, plan.first(), MAX_CONTEXTS)


def keep_book(program, goal):
    """The book of the greatest maps of the beginning and of all contexts that are needed from it on."""
    plan = plan_of(program, goal)
    return greatest_book(plan, plan.first(), MAX_CONTEXTS)


def check_rising(program, context):
    """Refuses what is no program, no context of it, or a context with a map that is not monotone."""
    check_program(program)
    if not fits_context(program, free_table(program), context):
        raise InvalidOperation("this is no context of the program")
    if not all([is_rising(one) for one in context[1] + context[2]]):
        raise InvalidOperation("a map of the context is not monotone")


def least_map(program, context, goal):
    """The least map of a context."""
    check_rising(program, context)
    return least_book(plan_of(program, goal), context, MAX_CONTEXTS)[context]


def greatest_map(program, context, goal):
    """The greatest map of a context."""
    check_rising(program, context)
    return greatest_book(plan_of(program, goal), context, MAX_CONTEXTS)[context]


def are_books(program, frees, value):
    """Whether the value is a tuple of at least one book."""
    if not isinstance(value, tuple) or len(value) == 0:
        return False
    return all([fits_book(program, frees, book) for book in value])


def contains_reckoned(plan, book, ahead, rest):
    """Whether each map of a book contains what is reckoned by the book ahead of it."""
    return all([map_within(Reckoner(plan, one, ahead, rest).whole(), book[one]) for one in book])


def is_reckoned(plan, book, ahead, rest):
    """Whether each map of a book is within what is reckoned by the book ahead of it."""
    return all([map_within(book[one], Reckoner(plan, one, ahead, rest).whole()) for one in book])


def has_all_needed(plan, book):
    """Whether a book has all contexts that are needed by it."""
    for context in book:
        reckoner = Reckoner(plan, context, book, 0)
        reckoner.whole()
        if not all([other in book for other in reckoner.asked]):
            return False
    return True


def is_closed(program, start, goal, value):
    """Whether the value is a closed book, which shows that the goal is not reached from a mode."""
    plan = plan_from(program, start, goal)
    if not fits_book(program, plan.frees, value) or plan.first() not in value:
        return False
    if plan.has(value, start, 0) or not has_all_needed(plan, value):
        return False
    return contains_reckoned(plan, value, value, 0)


def is_supported(program, start, goal, value):
    """Whether the value is a supported book, which shows that the goal is kept to from a mode."""
    plan = plan_from(program, start, goal)
    if not fits_book(program, plan.frees, value) or not plan.has(value, start, 0):
        return False
    return is_reckoned(plan, value, value, 0)


def is_climb(program, start, goal, value):
    """Whether the value is a climb, which shows that the goal is reached from a mode."""
    plan = plan_from(program, start, goal)
    if not are_books(program, plan.frees, value) or not plan.has(value[-1], start, 0):
        return False
    return all([is_reckoned(plan, book, ahead, 0) for ahead, book in zip(({},) + value, value)])


def is_fall(program, start, goal, value):
    """Whether the value is a fall, which shows that the goal is not kept to from a mode."""
    plan = plan_from(program, start, goal)
    rest = plan.size - 1
    if not are_books(program, plan.frees, value) or plan.has(value[-1], start, rest):
        return False
    return all([contains_reckoned(plan, book, ahead, rest) for ahead, book in zip(({},) + value, value)])


def climb(program, start, goal):
    """A climb about a mode, or None if there is none."""
    plan = plan_from(program, start, goal)
    if not plan.has(least_book(plan, plan.first(), MAX_CONTEXTS), start, 0):
        return None
    return ladder_books(plan, start, 0, MAX_CONTEXTS)


def fall(program, start, goal):
    """A fall about a mode, or None if there is none."""
    plan = plan_from(program, start, goal)
    if plan.has(greatest_book(plan, plan.first(), MAX_CONTEXTS), start, 0):
        return None
    return ladder_books(plan, start, plan.size - 1, MAX_CONTEXTS)
