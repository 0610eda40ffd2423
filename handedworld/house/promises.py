"""Promises about programs: their forms, and whether they are kept."""

from handedworld.ask.goals import can_keep, can_reach
from handedworld.base.words import is_index, is_name, is_number
from handedworld.reckon.checks import fits_goal
from handedworld.same.entries import are_alike, is_plain
from handedworld.unused.trim import is_idle

KINDS = ("reach", "bar", "keep", "alike", "idle")


def has_goal_form(value):
    """Whether the value has the form of a goal of some program."""
    if not isinstance(value, tuple) or len(value) != 2:
        return False
    if value[0] == "end":
        return is_number(value[1]) and value[1] >= 0
    return value[0] in ("deed", "signal") and is_name(value[1])


def is_promise(value):
    """Whether a tuple has the form of a promise."""
    if len(value) != 3 or value[0] not in KINDS:
        return False
    if value[0] in ("alike", "idle"):
        return is_name(value[1]) and is_name(value[2])
    return is_number(value[1]) and value[1] >= 0 and has_goal_form(value[2])


def are_comparable(program, one, other):
    """Whether procedures with these names are there, plain, and with equally many parameters."""
    if one not in program or other not in program:
        return False
    if not is_plain(program, one) or not is_plain(program, other):
        return False
    return len(program[one].parameters) == len(program[other].parameters)


def is_promise_kept(program, promise):
    """Whether a promise is true of a program."""
    kind, one, other = promise
    if kind == "alike":
        return are_comparable(program, one, other) and are_alike(program, one, other)
    if kind == "idle":
        return one in program and other in program[one].parameters and is_idle(program, one, other)
    if not is_index(one, program.modes) or not fits_goal(program, other):
        return False
    if kind == "keep":
        return can_keep(program, one, other)
    return can_reach(program, one, other) == (kind == "reach")
