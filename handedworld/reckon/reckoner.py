"""Reckons the body of a procedure in a context, for a goal, by a book."""


class Reckoner:
    """A body in a context, with all contexts for which the book was asked."""

    def __init__(self, plan, context, book, rest):
        name, meanings, around = context
        body = plan.body_of(name)
        self.size = plan.size
        self.frees = plan.frees
        self.rows = body.rows
        self.leads = body.leads
        self.takes = body.takes
        self.book = book
        self.missing = plan.flat(rest)
        self.blocks = {x: one for x, one in zip(plan.text[name].parameters, meanings)}
        self.outer = {signal: one for signal, one in zip(plan.frees[name], around)}
        self.kept = {}
        self.asked = {}

    def whole(self):
        """The reckoned map of the context."""
        return self.map_at(0, {}, self.outer)

    def formed(self, one):
        """What is taken for a map that was reckoned."""
        return one

    def found(self, context):
        """What the book has for a context."""
        return self.book.get(context, self.missing)

    def map_at(self, number, exits, answers):
        """The map of a term, with the sets of the exits and the answers that stand around it."""
        labels, signals = self.takes[number]
        key = (number, tuple([exits[label] for label in labels]), tuple([answers[signal] for signal in signals]))
        if key not in self.kept:
            self.kept[key] = self.formed(self.map_anew(number, exits, answers))
        return self.kept[key]

    def map_anew(self, number, exits, answers):
        """The same, reckoned for each good set; a call asks the book for all of them at once."""
        if self.rows[number][0][0] == "call":
            return self.map_of_call(number, exits, answers)
        return tuple([self.set_at(number, good, exits, answers) for good in range(self.size)])

    def set_at(self, number, good, exits, answers):
        """The set of a term with a good set behind it."""
        term, below = self.rows[number]
        kind = term[0]
        if kind == "do":
            return self.leads[number][good]
        if kind == "seq":
            return self.set_in_turn(below, good, exits, answers)
        if kind == "call":
            return self.map_at(number, exits, answers)[good]
        if kind == "run":
            return self.blocks[term[1]][good]
        if kind == "raise":
            return answers[term[1]][good]
        if kind == "exit":
            return exits[term[1]]
        if kind == "scope":
            return self.set_at(below[0], good, {**exits, term[1]: good}, answers)
        if kind == "answer":
            return self.set_at(below[-1], good, exits, self.answers_in(number, exits, answers))
        sets = [self.set_at(part, good, exits, answers) for part in below]
        return self.set_of_branches(kind, sets)

    def set_in_turn(self, below, good, exits, answers):
        """The set of terms one after the other, from behind."""
        found = good
        for part in below[::-1]:
            found = self.set_at(part, found, exits, answers)
        return found

    def set_of_branches(self, kind, sets):
        """The set of terms of which one is taken: by a side, or by the mode."""
        found = self.size - 1 if kind == "and" else 0
        for mode, number in enumerate(sets):
            if kind == "and":
                found = found & number
            elif kind == "or":
                found = found | number
            else:
                found = found | number & 1 << mode
        return found

    def answers_in(self, number, exits, answers):
        """The answers around the last term of an answer; they do not stand around its answering terms."""
        term, below = self.rows[number]
        inner = {**answers}
        for (signal, _), part in zip(term[1], below):
            inner[signal] = self.map_at(part, exits, answers)
        return inner

    def context_at(self, number, exits, answers):
        """The context of a call: a procedure with its arguments and the answers that stand around."""
        term, below = self.rows[number]
        meanings = tuple([self.map_at(part, exits, answers) for part in below])
        return (term[1], meanings, tuple([answers[signal] for signal in self.frees[term[1]]]))

    def map_of_call(self, number, exits, answers):
        """What the book has for the context of the call, which is asked for whatever it has."""
        context = self.context_at(number, exits, answers)
        self.asked[context] = True
        return self.found(context)
