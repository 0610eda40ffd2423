"""Other terms and programs, made of terms and programs."""

from handedworld.base.forms import terms_in
from handedworld.base.procedures import Procedure
from handedworld.base.programs import Program


def with_parts(term, parts):
    """The term with these terms in it, in the places of its own ones."""
    kind = term[0]
    if kind in ("seq", "or", "and", "case"):
        return term[:1] + parts
    if kind in ("call", "scope"):
        return term[:2] + parts
    if kind == "answer":
        pairs = [(signal, part) for (signal, _), part in zip(term[1], parts)]
        return (kind, tuple(pairs), parts[-1])
    return term


def paths_of(term):
    """The list of the paths to the term and to all terms in it, in the order in which they begin.

    A path is a tuple of indices, each of which tells which of the terms in a term is next.
    """
    found = [()]
    for index, part in enumerate(terms_in(term)):
        found.extend([(index,) + path for path in paths_of(part)])
    return found


def term_on(term, path):
    """The term to which a path leads."""
    for index in path:
        term = terms_in(term)[index]
    return term


def with_term_on(term, path, other):
    """The term with another one where a path leads."""
    if len(path) == 0:
        return other
    parts = list(terms_in(term))
    parts[path[0]] = with_term_on(parts[path[0]], path[1:], other)
    return with_parts(term, tuple(parts))


def with_sides(term, sides):
    """The term in which the words of choices are others: those that a dict has for them."""
    parts = tuple([with_sides(part, sides) for part in terms_in(term)])
    found = with_parts(term, parts)
    if term[0] in sides:
        return (sides[term[0]],) + found[1:]
    return found


def with_bodies(program, bodies):
    """The program with other bodies, told by a dict from the names of the procedures."""
    rows = [Procedure(one.named, one.parameters, bodies[one.named]) for one in program.procedures]
    return Program.of(program.modes, program.signals, tuple(rows))


def with_sides_in_all(program, sides):
    """The program in which the words of choices are others, in all bodies."""
    return with_bodies(program, {one.named: with_sides(one.body, sides) for one in program.procedures})


def all_by_own_side(program):
    """The program in which all choices are its own ones."""
    return with_sides_in_all(program, {"and": "or"})
