"""Reckons the body of a procedure in a context, for a goal, by a book."""

from handedworld.base.forms import terms_in
from handedworld.maps.sets import level_map


def lay_out(term, rows):
    """Adds a term and all terms in it to the rows, and returns its number.

    A row is a term with the numbers of the terms in it: so a term is told by a number.
    """
    number = len(rows)
    rows.append((term, []))
    for part in terms_in(term):
        rows[number][1].append(lay_out(part, rows))
    return number


def rows_of(body):
    """The list of the rows of a body; the body itself is the first one."""
    rows = []
    lay_out(body, rows)
    return rows


class Reckoner:
    """A body in a context, with all contexts for which the book was asked."""

    def __init__(self, program, frees, context, goal, book, rest):
        procedure = program[context[0]]
        self.frees = frees
        self.goal_word = goal[1] if goal[0] == "deed" else None
        self.book = book
        self.missing = level_map(program.modes, rest)
        self.rows = rows_of(procedure.body)
        self.blocks = {x: one for x, one in zip(procedure.parameters, context[1])}
        self.outer = {signal: one for signal, one in zip(frees[context[0]], context[2])}
        self.kept = {}
        self.asked = {}

    def whole(self):
        """The reckoned map of the context."""
        return self.map_at(0, {}, self.outer)

    def map_at(self, number, exits, answers):
        """The map of a term, with the sets of the exits and the answers that stand around it."""
        key = (number, tuple(exits.values()), tuple(answers.values()))
        if key not in self.kept:
            goods = range(len(self.missing))
            self.kept[key] = tuple([self.set_at(number, good, exits, answers) for good in goods])
        return self.kept[key]

    def set_at(self, number, good, exits, answers):
        """The set of a term with a good set behind it."""
        term, below = self.rows[number]
        kind = term[0]
        if kind == "do":
            return self.set_of_deed(term, good)
        if kind == "seq":
            return self.set_in_turn(below, good, exits, answers)
        if kind == "run":
            return self.blocks[term[1]][good]
        if kind == "raise":
            return answers[term[1]][good]
        if kind == "exit":
            return exits[term[1]]
        if kind == "scope":
            return self.set_at(below[0], good, {**exits, term[1]: good}, answers)
        if kind == "answer":
            return self.set_of_answered(number, good, exits, answers)
        if kind == "call":
            return self.set_of_call(number, good, exits, answers)
        sets = [self.set_at(part, good, exits, answers) for part in below]
        return self.set_of_branches(kind, sets)

    def set_of_deed(self, term, good):
        """The modes that lead into the good set; a deed of the goal has come to it at once."""
        found = 0
        for mode, after in enumerate(term[2]):
            if after is not None and (term[1] == self.goal_word or good >> after & 1 == 1):
                found = found | 1 << mode
        return found

    def set_in_turn(self, below, good, exits, answers):
        """The set of terms one after the other, from behind."""
        found = good
        for part in below[::-1]:
            found = self.set_at(part, found, exits, answers)
        return found

    def set_of_branches(self, kind, sets):
        """The set of terms of which one is taken: by a side, or by the mode."""
        found = len(self.missing) - 1 if kind == "and" else 0
        for mode, number in enumerate(sets):
            if kind == "and":
                found = found & number
            elif kind == "or":
                found = found | number
            else:
                found = found | number & 1 << mode
        return found

    def set_of_answered(self, number, good, exits, answers):
        """The set of the last term; the answering terms do not stand in their own answer."""
        term, below = self.rows[number]
        inner = {**answers}
        for (signal, _), part in zip(term[1], below):
            inner[signal] = self.map_at(part, exits, answers)
        return self.set_at(below[-1], good, exits, inner)

    def set_of_call(self, number, good, exits, answers):
        """What the book has for the context of the call, which is asked for whatever it has."""
        term, below = self.rows[number]
        meanings = tuple([self.map_at(part, exits, answers) for part in below])
        around = tuple([answers[signal] for signal in self.frees[term[1]]])
        context = (term[1], meanings, around)
        self.asked[context] = True
        return self.book.get(context, self.missing)[good]
