"""Which values are contexts, goals and books of a program."""

from handedworld.base.programs import Program
from handedworld.base.words import is_name
from handedworld.errors import InvalidGoal, InvalidProgram, UnknownName
from handedworld.maps.sets import fits_map, fits_set


def check_program(program):
    """Refuses what is no program."""
    if not isinstance(program, Program):
        raise InvalidProgram("this is no program")


def check_known(program, names):
    """Refuses what is no program, and the first of the names that no procedure of it has."""
    check_program(program)
    for name in names:
        if name not in program:
            raise UnknownName(name)


def fits_goal(program, value):
    """Whether the value is a goal of the program."""
    if not isinstance(value, tuple) or len(value) != 2:
        return False
    if value[0] == "end":
        return fits_set(program.modes, value[1])
    if value[0] == "deed":
        return is_name(value[1])
    return value[0] == "signal" and value[1] in program.signals


def check_goal(program, goal):
    """Refuses what is no goal of the program."""
    if not fits_goal(program, goal):
        raise InvalidGoal("this is no goal of the program")


def are_maps(modes, value, many):
    """Whether the value is a tuple of so many maps."""
    if not isinstance(value, tuple) or len(value) != many:
        return False
    return all([fits_map(modes, one) for one in value])


def fits_context(program, frees, value):
    """Whether the value is a context of a program with these free signals."""
    if not isinstance(value, tuple) or len(value) != 3 or value[0] not in program:
        return False
    name, meanings, answers = value
    if not are_maps(program.modes, meanings, len(program[name].parameters)):
        return False
    return are_maps(program.modes, answers, len(frees[name]))


def fits_book(program, frees, value):
    """Whether the value is a dict from contexts to maps."""
    if not isinstance(value, dict):
        return False
    if not all([fits_context(program, frees, context) for context in value]):
        return False
    return all([fits_map(program.modes, one) for one in list(value.values())])
