"""Free signals, and those that come out."""

from handedworld.ask.goals import reached
from handedworld.base.frees import free_table
from handedworld.reckon.checks import check_known, check_program


def free_signals(program, name):
    """The ascending tuple of the free signals of a procedure."""
    check_known(program, (name,))
    return free_table(program)[name]


def signals_out(program):
    """The dict from the free signals of main to the sets of the modes from which they are reached."""
    check_program(program)
    return {signal: reached(program, ("signal", signal)) for signal in free_table(program)["main"]}
