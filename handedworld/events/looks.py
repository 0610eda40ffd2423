"""What runs of a body can come to, looked at forward.

What a term can do is a triple: for each mode the set of the modes in which it can end;
for each mode the set of what it can come to, as a number of `Whats`; and the set of the
modes from which it can last for ever.
"""

from handedworld.base.frees import free_table
from handedworld.base.rows import rows_of


class Whats:
    """All that runs can come to, each with a number; a set of them is the sum of 2 ** n."""

    def __init__(self):
        self.numbers = {}
        self.listed = []
        self.plain = 0

    def bit(self, what):
        """The set with this alone."""
        if what not in self.numbers:
            self.numbers[what] = len(self.listed)
            self.listed.append(what)
            if what[0] in ("deed", "stuck", "place"):
                self.plain = self.plain | 1 << self.numbers[what]
        return 1 << self.numbers[what]

    def listed_in(self, number):
        """The ascending list of what is in a set."""
        return sorted([what for place, what in enumerate(self.listed) if number >> place & 1 == 1])


class Layout:
    """What is the same for all plain contexts of a program."""

    def __init__(self, program):
        names = program.names
        self.breadth = program.modes
        self.whats = Whats()
        self.frees = free_table(program)
        self.inputs = {name: program[name].parameters for name in names}
        self.rows = {name: rows_of(program[name].body) for name in names}

    def flat(self, number):
        """The tuple with this number for each mode."""
        return tuple([number for _ in range(self.breadth)])

    def first(self):
        """The plain context of main, with answers that never end."""
        return ("main", (), tuple([self.flat(0) for _ in self.frees["main"]]))


def modes_into(ends, number):
    """The set of the modes from which a relation leads into this set."""
    return sum([1 << mode for mode, reach in enumerate(ends) if reach & number != 0])


def gathered(number, row):
    """All that stands in a row at the places of a set, together."""
    found = 0
    for place, more in enumerate(row):
        if number >> place & 1 == 1:
            found = found | more
    return found


def joined(one, other):
    """For each mode what is in one of both."""
    return tuple([number | more for number, more in zip(one, other)])


def one_of(told, other):
    """What can be done by one of two terms."""
    return (joined(told[0], other[0]), joined(told[1], other[1]), told[2] | other[2])


def in_turn(told, other):
    """What can be done by a term, and then another one."""
    ends = tuple([gathered(number, other[0]) for number in told[0]])
    later = tuple([gathered(number, other[1]) for number in told[0]])
    return (ends, joined(told[1], later), told[2] | modes_into(told[0], other[2]))


class Look:
    """A body in a plain context, with all plain contexts for which the book was asked.

    A plain context without a lasting set counts as one that lasts from all modes.
    """

    def __init__(self, layout, context, book, lasting):
        name, meanings, around = context
        self.layout = layout
        self.rows = layout.rows[name]
        self.book = book
        self.lasting = lasting
        self.asked = {}
        self.empty = (layout.flat(0), layout.flat(0))
        self.blocks = {}
        for place, x in enumerate(layout.inputs[name]):
            self.blocks[x] = (meanings[place], self.each_mode("block", place), 0)
        self.outer = {}
        for signal, ends in zip(layout.frees[name], around):
            self.outer[signal] = (ends, self.each_mode("raise", signal), 0)

    def each_mode(self, kind, at):
        """For each mode the set of what happens there alone."""
        return tuple([self.layout.whats.bit((kind, at, mode)) for mode in range(self.layout.breadth)])

    def whole(self):
        """What the body can do."""
        return self.at(0, self.outer)

    def noted(self, number, told):
        """What is taken for what a term can do."""
        return told

    def known(self, context):
        """The ends and the events that are known of a plain context."""
        return self.book.get(context, self.empty)

    def at(self, number, answers):
        """What a term can do, where these answers stand around it."""
        return self.noted(number, self.at_term(number, answers))

    def at_term(self, number, answers):
        """The same, by the word of the term."""
        term, below = self.rows[number]
        kind = term[0]
        if kind == "do":
            return self.at_deed(term)
        if kind == "run":
            return self.blocks[term[1]]
        if kind == "raise":
            return answers[term[1]]
        if kind == "exit":
            return (self.empty[0], self.each_mode("exit", term[1]), 0)
        if kind == "scope":
            return self.at_scope(term[1], self.at(below[0], answers))
        if kind == "answer":
            helps = {signal: self.at(part, answers) for (signal, _), part in zip(term[1], below)}
            return self.at(below[-1], {**answers, **helps})
        parts = [self.at(part, answers) for part in below]
        if kind == "call":
            return self.at_call(term[1], parts, [answers[signal] for signal in self.layout.frees[term[1]]])
        return self.at_parts(kind, parts)

    def at_parts(self, kind, parts):
        """What can be done by a sequence, a choice or a case of terms."""
        if kind == "seq":
            found = (tuple([1 << mode for mode in range(self.layout.breadth)]), self.empty[1], 0)
            for part in parts:
                found = in_turn(found, part)
            return found
        if kind == "case":
            ends = tuple([part[0][mode] for mode, part in enumerate(parts)])
            events = tuple([part[1][mode] for mode, part in enumerate(parts)])
            return (ends, events, sum([part[2] & 1 << mode for mode, part in enumerate(parts)]))
        found = (self.empty[0], self.empty[1], 0)
        for part in parts:
            found = one_of(found, part)
        return found

    def at_deed(self, term):
        """What a deed can do: it ends in one mode, or is stuck."""
        ends = [0 if after is None else 1 << after for after in term[2]]
        whats = [("stuck", mode) if after is None else ("deed", term[1]) for mode, after in enumerate(term[2])]
        return (tuple(ends), tuple([self.layout.whats.bit(what) for what in whats]), 0)

    def at_scope(self, label, told):
        """What a scope can do: exits to it are ends of it."""
        left = self.each_mode("exit", label)
        every = sum(list(left))
        ends = []
        for reach, events in zip(told[0], told[1]):
            ends.append(reach | sum([1 << mode for mode, bit in enumerate(left) if events & bit != 0]))
        return (tuple(ends), tuple([events - (events & every) for events in told[1]]), told[2])

    def at_call(self, name, parts, around):
        """What a call can do: what the book has, with what blocks and answers do in their places."""
        layout = self.layout
        context = (name, tuple([part[0] for part in parts]), tuple([part[0] for part in around]))
        self.asked[context] = True
        ends, events = self.known(context)
        lasts = self.lasting.get(context, (1 << layout.breadth) - 1)
        found = [number & layout.whats.plain for number in events]
        handed = [(self.each_mode("block", place), part) for place, part in enumerate(parts)]
        asked = [(self.each_mode("raise", signal), part) for signal, part in zip(layout.frees[name], around)]
        for bits, part in handed + asked:
            for mode, bit in enumerate(bits):
                comes = [begin for begin, number in enumerate(events) if number & bit != 0]
                for begin in comes:
                    found[begin] = found[begin] | part[1][mode]
                    lasts = lasts | (part[2] >> mode & 1) << begin
        return (ends, tuple(found), lasts)
