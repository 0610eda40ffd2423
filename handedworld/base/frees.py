"""The signals that are free in procedures."""

from handedworld.base.forms import terms_in


def free_in(term, table):
    """The list of the signals that are free in a term, by those of the procedures."""
    if term[0] == "raise":
        return [term[1]]
    if term[0] == "answer":
        answered = [pair[0] for pair in term[1]]
        found = [signal for pair in term[1] for signal in free_in(pair[1], table)]
        return found + [signal for signal in free_in(term[2], table) if signal not in answered]
    found = [signal for part in terms_in(term) for signal in free_in(part, table)]
    if term[0] == "call":
        return found + list(table[term[1]])
    return found


def free_table(program):
    """The dict from the names of procedures to the ascending tuples of their free signals.

    These are the least such tuples: they begin empty, and grow until they fit.
    """
    table = {name: () for name in program.names}
    while True:
        after = {name: tuple(sorted(set(free_in(program[name].body, table)))) for name in program.names}
        if after == table:
            return table
        table = after
