"""What runs do, told once more: as a nested list of what is left, with a list for each open scope."""

from collections import namedtuple

Work = namedtuple("Work", "term blocks scopes answers")
Told = namedtuple("Told", "state mode words modes steps side options signal scopes left_over")


class Open:
    """A scope that is open, with what is left of its term, the next one first."""

    def __init__(self, label, rest):
        self.label = label
        self.rest = rest


class Bad(Exception):
    """A choice that is not there."""


def innermost(rest):
    """The list in which the next term stands, with the open scopes around it."""
    around = []
    while type(rest[0]) is Open:
        around.append(rest[0])
        rest = rest[0].rest
    return rest, around


def tidy(rest):
    """Takes out the scopes of which nothing is left."""
    for one in list(rest):
        if type(one) is Open:
            tidy(one.rest)
            if not one.rest:
                rest.remove(one)


def cut(rest, scope):
    """Takes a scope out, wherever it is."""
    for one in list(rest):
        if one is scope:
            rest.remove(one)
        elif type(one) is Open:
            cut(one.rest, scope)


def go(program, start, choices, until=None, limit=1000):
    """The run, with the choices that are left over; Bad if one is not there."""
    everything = [Work(program["main"].body, {}, {}, {})]
    mode, words, modes, steps, choices = start, [], [start], 0, list(choices)

    def told(state, side=None, options=0, signal=None):
        labels = []
        if everything:
            labels = [scope.label for scope in innermost(everything)[1]]
        return Told(state, mode, tuple(words), tuple(modes), steps, side, options, signal, tuple(labels), len(choices))

    while True:
        if not everything:
            return told("ended")
        if steps == limit:
            return told("far")
        rest, _ = innermost(everything)
        work = rest[0]
        word, *args = work.term
        if word in ("or", "and"):
            if not choices:
                return told("waiting", word, len(args))
            if choices[0] >= len(args):
                raise Bad
        steps += 1
        rest.pop(0)
        if word == "do":
            if args[1][mode] is None:
                tidy(everything)
                return told("stuck")
            mode = args[1][mode]
            words.append(args[0])
            modes.append(mode)
            if args[0] == until:
                tidy(everything)
                return told("done")
        elif word == "seq":
            rest[:0] = [work._replace(term=part) for part in args]
        elif word in ("or", "and"):
            rest.insert(0, work._replace(term=args[choices.pop(0)]))
        elif word == "case":
            rest.insert(0, work._replace(term=args[mode]))
        elif word == "run":
            rest.insert(0, work.blocks[args[0]])
        elif word == "call":
            procedure = program[args[0]]
            blocks = dict(zip(procedure.parameters, [work._replace(term=part) for part in args[1:]]))
            rest.insert(0, Work(procedure.body, blocks, {}, work.answers))
        elif word == "scope":
            scope = Open(args[0], [])
            scope.rest.append(work._replace(term=args[1], scopes=dict(work.scopes, **{args[0]: scope})))
            rest.insert(0, scope)
        elif word == "exit":
            cut(everything, work.scopes[args[0]])
        elif word == "raise":
            if args[0] not in work.answers:
                tidy(everything)
                return told("asking", signal=args[0])
            rest.insert(0, work.answers[args[0]])
        elif word == "answer":
            more = {signal: work._replace(term=part) for signal, part in args[0]}
            rest.insert(0, work._replace(term=args[1], answers=dict(work.answers, **more)))
        tidy(everything)
