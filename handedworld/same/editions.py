"""Other editions of a program: with a branch less, or with calls of another procedure."""

from handedworld.ask.goals import kept, reached
from handedworld.base.edits import paths_of, term_on, with_bodies, with_parts, with_term_on
from handedworld.base.forms import terms_in
from handedworld.base.procedures import Procedure
from handedworld.base.words import is_index
from handedworld.errors import InvalidNumber, InvalidOperation
from handedworld.maps.rounds import check_boolean
from handedworld.reckon.checks import check_goal, check_known, check_program


def choice_paths(body):
    """The list of the paths to the choices of a body, in the order in which they begin."""
    return [path for path in paths_of(body) if term_on(body, path)[0] in ("or", "and")]


def path_of_choice(program, name, number):
    """The path to the choice with this number in the body of a procedure."""
    check_known(program, (name,))
    paths = choice_paths(program[name].body)
    if not is_index(number, len(paths)):
        raise InvalidNumber(number)
    return paths[number]


def choice_at(program, name, number):
    """The choice with this number in the body of a procedure."""
    path = path_of_choice(program, name, number)
    return term_on(program[name].body, path)


def without_term(program, name, number, index):
    """The program without the term with this index of a choice."""
    path = path_of_choice(program, name, number)
    body = program[name].body
    choice = term_on(body, path)
    parts = terms_in(choice)
    if not is_index(index, len(parts)):
        raise InvalidNumber(index)
    if len(parts) == 1:
        raise InvalidOperation("the choice has no other term")
    fewer = with_parts(choice, parts[:index] + parts[index + 1:])
    return program.with_procedure(Procedure(name, program[name].parameters, with_term_on(body, path, fewer)))


def with_calls(term, one, other):
    """The term in which calls of one procedure are calls of another one."""
    parts = tuple([with_calls(part, one, other) for part in terms_in(term)])
    if term[0] == "call" and term[1] == one:
        return ("call", other) + parts
    return with_parts(term, parts)


def exchanged(program, one, other):
    """The program in which each call of one procedure is a call of another one."""
    check_known(program, (one, other))
    if len(program[one].parameters) != len(program[other].parameters):
        raise InvalidOperation("the procedures have unequally many parameters")
    return with_bodies(program, {name: with_calls(program[name].body, one, other) for name in program.names})


def modes_for(program, goal, keep):
    """The set of the modes from which the program reaches, or keeps to, the goal."""
    return kept(program, goal) if keep else reached(program, goal)


def modes_lost(program, other, goal, *, keep=False):
    """The set of the modes from which the first program comes to the goal, or keeps to it, and the second one not."""
    check_program(program)
    check_program(other)
    if program.modes != other.modes or program.signals != other.signals:
        raise InvalidOperation("the programs have not the same modes and signals")
    check_goal(program, goal)
    check_boolean(keep)
    held = modes_for(program, goal, keep)
    return held - (held & modes_for(other, goal, keep))


def terms_of_choices(program):
    """The ascending list of name, number, index and kind of all terms of choices with several terms."""
    found = []
    for name in program.names:
        body = program[name].body
        for number, path in enumerate(choice_paths(body)):
            choice = term_on(body, path)
            if len(terms_in(choice)) > 1:
                found.extend([(name, number, index, choice[0]) for index in range(len(terms_in(choice)))])
    return found


def needless_terms(program, goal, *, keep=False):
    """The ascending tuple of the terms of choices without which their side loses nothing."""
    check_program(program)
    check_goal(program, goal)
    check_boolean(keep)
    held = modes_for(program, goal, keep)
    found = []
    for name, number, index, kind in terms_of_choices(program):
        left = modes_for(without_term(program, name, number, index), goal, keep)
        changed = held - (held & left) if kind == "or" else left - (left & held)
        if changed == 0:
            found.append((name, number, index))
    return tuple(found)
