"""Programs in which both sides are exchanged, their papers, and programs that are put together."""

from handedworld.base.edits import with_sides_in_all
from handedworld.base.forms import terms_of
from handedworld.base.frees import free_table
from handedworld.base.procedures import ascending
from handedworld.base.programs import Program, is_program_of
from handedworld.errors import InvalidMeaning, InvalidOperation
from handedworld.maps.sets import opposite_map
from handedworld.reckon.books import are_books
from handedworld.reckon.checks import check_program, fits_book
from handedworld.reckon.plans import Plan
from handedworld.reckon.reckoner import Reckoner

BECOMES = {"climb": "fall", "fall": "climb", "closed": "supported", "supported": "closed"}


def other_side(program):
    """The program in which each choice is the one of the other side."""
    check_program(program)
    return with_sides_in_all(program, {"and": "or", "or": "and"})


def is_sure_footed(program):
    """Whether each deed can be done in each mode, and each signal is answered."""
    check_program(program)
    terms = [term for one in program.procedures for term in terms_of(one.body)]
    if any([None in term[2] for term in terms if term[0] == "do"]):
        return False
    return len(free_table(program)["main"]) == 0


def has_paper_form(program, value):
    """Whether the value has the form of a paper: a word with a book, or with books."""
    if not isinstance(value, tuple) or len(value) != 2:
        return False
    frees = free_table(program)
    if value[0] in ("climb", "fall"):
        return are_books(program, frees, value[1])
    return value[0] in ("closed", "supported") and fits_book(program, frees, value[1])


def opposites(maps):
    """The tuple of the opposites of maps."""
    return tuple([opposite_map(one) for one in maps])


def opposite_book(book):
    """The book with the opposites of all maps, its contexts in ascending order."""
    found = {(name, opposites(maps), opposites(around)): book[(name, maps, around)] for name, maps, around in book}
    return {context: opposite_map(found[context]) for context in sorted(list(found))}


def with_needed(program, book):
    """The book with all contexts that are needed by it and by one another, which have all modes for each set."""
    plan = Plan(program, ("end", 0))
    every = plan.size - 1
    found = {context: book[context] for context in book}
    ahead = list(book)
    while len(ahead) > 0:
        reckoner = Reckoner(plan, ahead.pop(), found, every)
        reckoner.whole()
        more = [context for context in reckoner.asked if context not in found]
        found.update({context: plan.flat(every) for context in more})
        ahead.extend(more)
    return {context: found[context] for context in sorted(list(found))}


def other_paper(program, paper):
    """The paper of the other side's program that a paper about an end becomes."""
    if not is_sure_footed(program):
        raise InvalidOperation("the program is not sure-footed")
    if not has_paper_form(program, paper):
        raise InvalidMeaning("this has not the form of a paper")
    kind = BECOMES[paper[0]]
    if isinstance(paper[1], tuple):
        return kind, tuple([opposite_book(book) for book in paper[1]])
    book = opposite_book(paper[1])
    if kind == "closed":
        book = with_needed(other_side(program), book)
    return kind, book


def put_together(program, other):
    """The program with the procedures of the first one, and those of the second one that it does not have."""
    check_program(program)
    check_program(other)
    if program.modes != other.modes:
        raise InvalidOperation("the programs have not equally many modes")
    signals = ascending(program.signals + other.signals)
    rows = program.procedures + tuple([one for one in other.procedures if one.named not in program])
    if not is_program_of(program.modes, signals, rows):
        raise InvalidOperation("together they are no program")
    return Program.of(program.modes, signals, rows)
