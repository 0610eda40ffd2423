"""Programs that are laid out for a goal."""

from handedworld.base.frees import free_table
from handedworld.base.rows import rows_of
from handedworld.maps.sets import level_map


def deed_set(term, word, good):
    """The modes that lead into the good set; a deed of the goal has come to it at once."""
    found = 0
    for mode, after in enumerate(term[2]):
        if after is not None and (term[1] == word or good >> after & 1 == 1):
            found = found | 1 << mode
    return found


def deed_maps(rows, word, size):
    """The dict from the numbers of the deeds in these rows to their maps."""
    found = {}
    for number, (term, _) in enumerate(rows):
        if term[0] == "do":
            found[number] = tuple([deed_set(term, word, good) for good in range(size)])
    return found


class Plan:
    """What is the same for all contexts of a program, for one goal."""

    def __init__(self, program, goal):
        word = goal[1] if goal[0] == "deed" else None
        names = program.names
        self.breadth = program.modes
        self.size = 1 << program.modes
        self.sought = goal
        self.good = goal[1] if goal[0] == "end" else 0
        self.frees = free_table(program)
        self.inputs = {name: program[name].parameters for name in names}
        self.rows = {name: rows_of(program[name].body) for name in names}
        self.deeds = {name: deed_maps(self.rows[name], word, self.size) for name in names}

    def flat(self, number):
        """The map that has this set for each set."""
        return level_map(self.breadth, number)

    def first(self):
        """The context of main in which no signal is answered, but comes to the goal if it is it."""
        goods = [self.size - 1 if self.sought == ("signal", signal) else 0 for signal in self.frees["main"]]
        return ("main", (), tuple([self.flat(good) for good in goods]))

    def set_in(self, book, rest=0):
        """The set that a book has for the beginning and the goal; `rest` if the beginning is left out."""
        return book.get(self.first(), self.flat(rest))[self.good]

    def has(self, book, mode, rest):
        """Whether a book has the mode for the beginning and the goal."""
        return self.set_in(book, rest) >> mode & 1 == 1
