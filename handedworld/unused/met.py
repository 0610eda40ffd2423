"""Which places are met: those to which some run comes, whatever both sides choose."""

from handedworld.base.words import is_index
from handedworld.reckon.books import climb, is_climb, is_closed, reach_book
from handedworld.reckon.checks import check_program
from handedworld.reckon.plans import Plan
from handedworld.unused.comings import places_come_to
from handedworld.unused.places import check_place, probe


def is_met(program, place):
    """Whether some run comes to a place."""
    check_place(program, place)
    return place in places_come_to(program)


def met_places(program):
    """The ascending tuple of all places to which some run comes."""
    check_program(program)
    return tuple(places_come_to(program))


def met_paper(program, place):
    """A paper that shows whether a place is met."""
    word, probed = probe(program, place)
    goal = ("deed", word)
    book = reach_book(probed, goal)
    number = Plan(probed, goal).set_in(book)
    if number == 0:
        return ("unmet", book)
    start = [mode for mode in range(program.modes) if number >> mode & 1 == 1][0]
    return ("met", start, climb(probed, start, goal))


def is_met_paper(program, place, value):
    """Whether the value shows that a place is met, or that it is not."""
    word, probed = probe(program, place)
    goal = ("deed", word)
    if not isinstance(value, tuple) or len(value) not in (2, 3):
        return False
    if len(value) == 3:
        return value[0] == "met" and is_index(value[1], program.modes) and is_climb(probed, value[1], goal, value[2])
    if value[0] != "unmet":
        return False
    return all([is_closed(probed, mode, goal, value[1]) for mode in range(program.modes)])
