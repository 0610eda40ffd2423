"""Places of terms, and the probes that show whether runs come there."""

from handedworld.base.edits import all_by_own_side, paths_of, term_on, with_bodies, with_term_on
from handedworld.base.forms import terms_in
from handedworld.base.words import LETTERS, is_index
from handedworld.errors import InvalidOperation
from handedworld.reckon.checks import check_program


def leads_on(body, path):
    """Whether a tuple is a path from a body to a term."""
    term = body
    for index in path:
        if not is_index(index, len(terms_in(term))):
            return False
        term = terms_in(term)[index]
    return True


def is_place(program, value):
    """Whether the value is a place of the program."""
    check_program(program)
    if not isinstance(value, tuple) or len(value) != 2 or value[0] not in program:
        return False
    return isinstance(value[1], tuple) and leads_on(program[value[0]].body, value[1])


def places(program):
    """The ascending tuple of all places of the program."""
    check_program(program)
    return tuple([(name, path) for name in program.names for path in paths_of(program[name].body)])


def check_place(program, place):
    """Refuses what is no program, and what is no place of it."""
    if not is_place(program, place):
        raise InvalidOperation("this is no place of the program")


def term_at(program, place):
    """The term at a place."""
    check_place(program, place)
    return term_on(program[place[0]].body, place[1])


def new_word(words):
    """The first one of a, b, .. z, aa, ab, .. that is none of these words."""
    longer = [first + second for first in LETTERS for second in LETTERS]
    return [word for word in list(LETTERS) + longer if word not in words][0]


def with_term_at(program, place, term):
    """The program with this term at a place."""
    bodies = {one.named: one.body for one in program.procedures}
    bodies[place[0]] = with_term_on(bodies[place[0]], place[1], term)
    return with_bodies(program, bodies)


def probe(program, place):
    """The pair of a new word and the program with a deed of this word at a place, where nothing is the other side's."""
    check_place(program, place)
    word = new_word(program.words)
    deed = ("do", word, tuple([mode for mode in range(program.modes)]))
    return word, all_by_own_side(with_term_at(program, place, deed))
