"""Blocks that are made for each meaning."""

from handedworld.base.forms import terms_of
from handedworld.base.procedures import Procedure, is_term
from handedworld.base.programs import Program
from handedworld.base.words import MAX_MODES
from handedworld.errors import InvalidMeaning, InvalidProgram
from handedworld.maps.sets import fits_monotone
from handedworld.maps.spaces import Space, check_modes
from handedworld.reckon.plans import Plan
from handedworld.reckon.reckoner import Reckoner

MAX_BLOCK_MODES = 2
LABEL = "win"


def step_between(modes, old, new):
    """A deed from one mode alone to another one."""
    return ("do", "go", tuple([new if mode == old else None for mode in range(modes)]))


def way_from(modes, mode, members):
    """What comes from a mode alone into any of these modes, by the other side's choice; it wins if there are none."""
    if len(members) == 0:
        return ("seq", step_between(modes, mode, mode), ("exit", LABEL))
    return ("and",) + tuple([step_between(modes, mode, member) for member in members])


def block_of(modes, wanted):
    """A term with this won map."""
    check_modes(modes, MAX_BLOCK_MODES)
    if not fits_monotone(modes, wanted):
        raise InvalidMeaning("this is no monotone map")
    space = Space(modes)
    pairs = [(mode, number) for mode in range(modes) for number in space.least_sets(wanted, mode)]
    if len(pairs) == 0:
        return ("do", "go", tuple([None for _ in range(modes)]))
    return ("or",) + tuple([way_from(modes, mode, space.members(number)) for mode, number in pairs])


def scope_around(modes, term):
    """The program whose main procedure is the scope that wins, with the term in it."""
    body = ("scope", LABEL, term)
    if not is_term(body, ()):
        raise InvalidProgram("this is no term for a scope that wins")
    if any([part[0] in ("call", "raise", "answer") for part in terms_of(term)]):
        raise InvalidProgram("there are calls or signals in this term")
    return Program(modes, (), Procedure("main", (), body))


def won_map(modes, term):
    """The map of a term if all modes are good behind the scope that wins."""
    check_modes(modes, MAX_MODES)
    plan = Plan(scope_around(modes, term), ("end", 0))
    reckoner = Reckoner(plan, plan.first(), {}, 0)
    return reckoner.map_at(reckoner.rows[0][1][0], {LABEL: plan.size - 1}, {})
