"""Programs that are laid out for a goal."""

from handedworld.base.frees import free_table
from handedworld.base.rows import rows_of
from handedworld.maps.sets import level_map


def deed_set(term, word, good):
    """The modes that lead into the good set; a deed of the goal has come to it at once."""
    found = 0
    for mode, after in enumerate(term[2]):
        if after is not None and (term[1] == word or good >> after & 1 == 1):
            found = found | 1 << mode
    return found


def deed_maps(rows, word, size):
    """The dict from the numbers of the deeds in these rows to their maps."""
    found = {}
    for number, (term, _) in enumerate(rows):
        if term[0] == "do":
            found[number] = tuple([deed_set(term, word, good) for good in range(size)])
    return found


def used_by(rows, frees):
    """For each row the ascending tuples of the labels and of the signals that its term takes from around it."""
    labels = {}
    signals = {}
    for number in range(len(rows) - 1, -1, -1):
        term, below = rows[number]
        kind = term[0]
        out = [label for part in below for label in labels[part]]
        asked = [signal for part in below for signal in signals[part]]
        if kind == "exit":
            out = [term[1]]
        elif kind == "scope":
            out = [label for label in out if label != term[1]]
        elif kind == "raise":
            asked = [term[1]]
        elif kind == "call":
            asked = asked + list(frees[term[1]])
        elif kind == "answer":
            answered = [pair[0] for pair in term[1]]
            helps = [signal for part in below[:-1] for signal in signals[part]]
            asked = helps + [signal for signal in signals[below[-1]] if signal not in answered]
        labels[number] = tuple(sorted(set(out)))
        signals[number] = tuple(sorted(set(asked)))
    return [(labels[number], signals[number]) for number in range(len(rows))]


class Body:
    """The body of a procedure, laid out for a goal."""

    def __init__(self, body, frees, word, size):
        self.rows = rows_of(body)
        self.takes = used_by(self.rows, frees)
        self.leads = deed_maps(self.rows, word, size)


class Plan:
    """What is the same for all contexts of a program, for one goal."""

    def __init__(self, program, goal):
        self.text = program
        self.breadth = program.modes
        self.size = 1 << program.modes
        self.sought = goal
        self.good = goal[1] if goal[0] == "end" else 0
        self.frees = free_table(program)
        self.laid_out = {}

    def body_of(self, name):
        """The body of a procedure, which is laid out when it is needed first."""
        if name not in self.laid_out:
            word = self.sought[1] if self.sought[0] == "deed" else None
            self.laid_out[name] = Body(self.text[name].body, self.frees, word, self.size)
        return self.laid_out[name]

    def flat(self, number):
        """The map that has this set for each set."""
        return level_map(self.breadth, number)

    def first(self):
        """The context of main in which no signal is answered, but comes to the goal if it is it."""
        goods = [self.size - 1 if self.sought == ("signal", signal) else 0 for signal in self.frees["main"]]
        return ("main", (), tuple([self.flat(good) for good in goods]))

    def set_in(self, book, rest=0):
        """The set that a book has for the beginning and the goal; `rest` if the beginning is left out."""
        return book.get(self.first(), self.flat(rest))[self.good]

    def has(self, book, mode, rest):
        """Whether a book has the mode for the beginning and the goal."""
        return self.set_in(book, rest) >> mode & 1 == 1
