"""What procedures are for all callers: their maps for all maps that can be handed to them."""

from handedworld.base.frees import free_table
from handedworld.base.procedures import Procedure
from handedworld.base.words import is_index
from handedworld.errors import InvalidMeaning, InvalidNumber, InvalidOperation, TooMany
from handedworld.maps.rounds import check_boolean
from handedworld.maps.sets import fits_monotone, fits_set, map_within, monotone_maps
from handedworld.reckon.books import MAX_CONTEXTS
from handedworld.reckon.checks import check_known
from handedworld.reckon.extremes import greatest_ledger, least_ledger
from handedworld.reckon.plans import Plan
from handedworld.same.made import LABEL, MAX_BLOCK_MODES, block_of


def is_plain(program, name):
    """Whether a procedure has no free signals."""
    return len(free_table(program)[name]) == 0


def check_plain(program, name):
    """Refuses a procedure with free signals."""
    if not is_plain(program, name):
        raise InvalidOperation("the procedure is not plain")


def tuples_for(program, name):
    """The ascending list of the tuples of monotone maps, one for each parameter of a procedure."""
    maps = monotone_maps(program.modes)
    found = [()]
    for _ in program[name].parameters:
        if len(found) * len(maps) > MAX_CONTEXTS:
            raise TooMany(MAX_CONTEXTS)
        found = [row + (one,) for row in found for one in maps]
    return found


def settled_entries(program, name, keep):
    """The dict from the tuples of monotone maps to the least, or greatest, map of a plain procedure."""
    rows = tuples_for(program, name)
    plan = Plan(program, ("end", 0))
    ledger = greatest_ledger(plan, MAX_CONTEXTS) if keep else least_ledger(plan, MAX_CONTEXTS)
    book = ledger.settle_all([(name, row, ()) for row in rows])
    return {row: book[(name, row, ())] for row in rows}


def entries_of(program, name, *, keep=False):
    """The dict from all tuples of monotone maps to the least, or greatest, map of the procedure."""
    check_known(program, (name,))
    check_boolean(keep)
    check_plain(program, name)
    return settled_entries(program, name, keep)


def entries_of_both(program, one, other, keep):
    """The entries of two procedures that can be compared."""
    check_known(program, (one, other))
    check_boolean(keep)
    check_plain(program, one)
    check_plain(program, other)
    if len(program[one].parameters) != len(program[other].parameters):
        raise InvalidOperation("the procedures have unequally many parameters")
    return settled_entries(program, one, keep), settled_entries(program, other, keep)


def are_alike(program, one, other, *, keep=False):
    """Whether two procedures have equal maps for all that can be handed to them."""
    entries, others = entries_of_both(program, one, other, keep)
    return entries == others


def is_within(program, one, other, *, keep=False):
    """Whether the maps of the first procedure are within those of the second one."""
    entries, others = entries_of_both(program, one, other, keep)
    return all([map_within(entries[row], others[row]) for row in entries])


def mode_of_one(number, other, modes):
    """The first mode that is in just one of two different sets."""
    return [mode for mode in range(modes) if (number ^ other) >> mode & 1 == 1][0]


def telling(program, one, other, *, keep=False):
    """Maps, a set and a mode that tell two procedures; None if they are alike."""
    entries, others = entries_of_both(program, one, other, keep)
    for row in entries:
        for good, number in enumerate(entries[row]):
            if number != others[row][good]:
                return (row, good, mode_of_one(number, others[row][good], program.modes))
    return None


def is_triple(value, program, entries):
    """Whether the value is a tuple of handed maps, a set, and a mode."""
    if not isinstance(value, tuple) or len(value) != 3:
        return False
    maps, good, mode = value
    if not fits_set(program.modes, good) or not is_index(mode, program.modes):
        return False
    return are_monotone(program.modes, maps) and maps in entries


def are_monotone(modes, value):
    """Whether the value is a tuple of monotone maps."""
    return isinstance(value, tuple) and all([fits_monotone(modes, one) for one in value])


def is_telling(program, one, other, value, *, keep=False):
    """Whether the value tells two procedures."""
    entries, others = entries_of_both(program, one, other, keep)
    if not is_triple(value, program, entries):
        return False
    maps, good, mode = value
    return (entries[maps][good] ^ others[maps][good]) >> mode & 1 == 1


def used_from(program, name):
    """The list of the procedures that a procedure uses, also by others."""
    found = []
    ahead = [name]
    while len(ahead) > 0:
        more = [other for other in program[ahead.pop()].uses if other not in found]
        found.extend(more)
        ahead.extend(more)
    return found


def check_callable(program, name):
    """Refuses a procedure that no other main procedure can hand blocks to."""
    check_known(program, (name,))
    check_plain(program, name)
    if name == "main" or "main" in used_from(program, name):
        raise InvalidOperation("the procedure is main, or uses it")
    if len(program[name].parameters) > 0 and program.modes > MAX_BLOCK_MODES:
        raise InvalidOperation("no blocks are made for so many modes")


def caller_of(program, name, maps, good):
    """The program with a main procedure that shows the map of a procedure for these maps at a set."""
    check_callable(program, name)
    if not are_monotone(program.modes, maps) or len(maps) != len(program[name].parameters):
        raise InvalidMeaning("these are no monotone maps, one for each parameter")
    if not fits_set(program.modes, good):
        raise InvalidNumber(good)
    blocks = tuple([block_of(program.modes, one) for one in maps])
    table = tuple([mode if good >> mode & 1 == 1 else None for mode in range(program.modes)])
    work = ("seq", ("call", name) + blocks, ("do", "go", table))
    return program.with_procedure(Procedure("main", (), ("scope", LABEL, work)))
