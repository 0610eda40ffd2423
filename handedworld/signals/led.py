"""Programs led into such without signals: blocks are handed for what is answered."""

from handedworld.base.forms import terms_in, terms_of
from handedworld.base.frees import free_table
from handedworld.base.procedures import MAX_DEPTH, MAX_PARAMETERS, MAX_TERMS, Procedure
from handedworld.base.programs import Program
from handedworld.errors import InvalidGoal, InvalidMeaning, InvalidOperation, TooMany
from handedworld.maps.sets import level_map
from handedworld.reckon.checks import check_goal, check_program, fits_book, fits_context


def led_term(term, stands, frees):
    """A term, led where these terms stand for the signals."""
    kind = term[0]
    if kind == "raise":
        return stands[term[1]]
    if kind == "answer":
        helps = {signal: led_term(part, stands, frees) for signal, part in term[1]}
        return led_term(term[2], {**stands, **helps}, frees)
    parts = tuple([led_term(part, stands, frees) for part in terms_in(term)])
    if kind == "call":
        return term[:2] + parts + tuple([stands[signal] for signal in frees[term[1]]])
    if kind == "scope":
        return term[:2] + parts
    if kind in ("seq", "or", "and", "case"):
        return term[:1] + parts
    return term


def stands_in(program, name, frees):
    """The terms that stand for the free signals of a procedure where its body answers none."""
    if name == "main":
        table = tuple([None for _ in range(program.modes)])
        return {signal: ("do", signal, table) for signal in frees["main"]}
    return {signal: ("run", signal) for signal in frees[name]}


def depth_of(term):
    """One more than the greatest depth of the terms in a term."""
    return 1 + max([depth_of(part) for part in terms_in(term)], default=0)


def names_twice(labels):
    """Whether some label stands here twice."""
    return len(set(labels)) != len(labels)


def check_leadable(program, frees, bodies):
    """Refuses a program for which names would not fit together."""
    for one in program.procedures:
        if any([x in frees[one.named] for x in one.parameters]):
            raise InvalidOperation("a parameter has the name of a free signal")
        if len(frees["main"]) > 0 and "main" in one.uses:
            raise InvalidOperation("main has free signals and is called")
    for body in bodies:
        if names_twice([term[1] for term in terms_of(body) if term[0] == "scope"]):
            raise InvalidOperation("a label would stand in a body twice")


def check_sizes(parameters, bodies):
    """Refuses what would be too large: parameters first, then terms, then depths, of all procedures."""
    if max([len(row) for row in parameters]) > MAX_PARAMETERS:
        raise TooMany(MAX_PARAMETERS)
    if max([len(terms_of(body)) for body in bodies]) > MAX_TERMS:
        raise TooMany(MAX_TERMS)
    if max([depth_of(body) for body in bodies]) > MAX_DEPTH:
        raise TooMany(MAX_DEPTH)


def led(program):
    """The program without signals in which blocks are handed for all that is answered."""
    check_program(program)
    frees = free_table(program)
    rows = program.procedures
    bodies = [led_term(one.body, stands_in(program, one.named, frees), frees) for one in rows]
    parameters = [one.parameters + (() if one.named == "main" else frees[one.named]) for one in rows]
    check_leadable(program, frees, bodies)
    check_sizes(parameters, bodies)
    found = [Procedure(one.named, names, body) for one, names, body in zip(rows, parameters, bodies)]
    return Program.of(program.modes, (), tuple(found))


def become(program, context):
    """What a context becomes, or None if it is left out."""
    name, meanings, answers = context
    if name != "main":
        return (name, meanings + answers, ())
    if all([one == level_map(program.modes, 0) for one in answers]):
        return ("main", (), ())
    return None


def led_context(program, context):
    """What a context becomes in the led program, or None if it is left out."""
    check_program(program)
    if not fits_context(program, free_table(program), context):
        raise InvalidOperation("this is no context of the program")
    return become(program, context)


def led_book(program, goal, book):
    """The book of what the contexts of a book become in the led program."""
    check_program(program)
    check_goal(program, goal)
    if goal[0] == "signal":
        raise InvalidGoal("signals do not come out of a led program")
    if not fits_book(program, free_table(program), book):
        raise InvalidMeaning("this is no book of the program")
    told = {become(program, context): book[context] for context in book}
    return {context: told[context] for context in sorted([one for one in told if one is not None])}
