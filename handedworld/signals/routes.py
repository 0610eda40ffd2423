"""Programs whose runs go along with the rides of a chart.

Each point, each call, and each answer with unwinds is a procedure. Their keys begin with
these words and the name of the row; equal calls of one row are one procedure.
"""

from handedworld.base.procedures import Procedure
from handedworld.base.words import LETTERS
from handedworld.signals.moves import moves_at

NOTHING = ("seq",)


def route_keys(chart):
    """The list of the keys of all points, calls, and answers with unwinds, also of equal ones."""
    points = [("point", row[0], point) for row in chart for point in range(row[1])]
    calls = [("call", row[0], move) for row in chart for move in row[2] if move[0] == "call"]
    answers = [("answer", key[1], answer) for key in calls for answer in key[2][4] if len(answer[2]) > 0]
    return points + calls + answers


def bar(modes):
    """A deed that cannot be done."""
    return ("do", "go", tuple([None for _ in range(modes)]))


def step(modes, old, new):
    """A deed from one mode alone to another one."""
    return ("do", "go", tuple([new if mode == old else None for mode in range(modes)]))


class Route:
    """A chart with a name for each procedure that is made of it."""

    def __init__(self, modes, chart):
        self.breadth = modes
        self.rows = chart
        self.named_by = {}
        for key in route_keys(chart):
            if key not in self.named_by:
                self.named_by[key] = LETTERS[len(self.named_by)]

    def to_point(self, row, point):
        """What goes on at a point of a row, until the row is left."""
        return ("call", self.named_by[("point", row, point)])

    def of_move(self, row, move):
        """What a move does, and what comes behind it."""
        if move[0] == "go":
            return ("seq", step(self.breadth, move[3], move[4]), self.to_point(row, move[2]))
        if move[0] == "raise":
            return ("seq", ("raise", move[3]), self.to_point(row, move[2]))
        if move[0] == "call":
            return ("call", self.named_by[("call", row, move)])
        return NOTHING

    def at_point(self, row, point, mode):
        """What can be done at a point in a mode."""
        moves = moves_at(self.rows, row, point, mode)
        if len(moves) == 0:
            return bar(self.breadth)
        return ("or",) + tuple([self.of_move(row, move) for move in moves])

    def answering(self, row, answer):
        """What answers a signal: the row of the answer, perhaps with what unwinds the call."""
        if len(answer[2]) == 0:
            return self.to_point(answer[1], 0)
        return ("call", self.named_by[("answer", row, answer)], ("exit", "out"))

    def of_call(self, row, move):
        """A call in a scope that its answers can leave, and what comes behind it."""
        inner = self.to_point(move[3], 0)
        if len(move[4]) > 0:
            pairs = [(answer[0], self.answering(row, answer)) for answer in move[4]]
            inner = ("answer", tuple(pairs), inner)
        return ("scope", "out", ("seq", inner, self.to_point(row, move[2])))

    def of_answer(self, row, answer):
        """The row of an answer; behind it, in some modes, what unwinds the call, which is left then."""
        told = {mode: ("seq", self.to_point(row, point), ("run", "leave")) for mode, point in answer[2]}
        cases = tuple([told.get(mode, NOTHING) for mode in range(self.breadth)])
        return ("seq", self.to_point(answer[1], 0), ("case",) + cases)

    def procedure_of(self, key):
        """The procedure of a point, a call, or an answer with unwinds."""
        kind, row, what = key
        name = self.named_by[key]
        if kind == "point":
            cases = tuple([self.at_point(row, what, mode) for mode in range(self.breadth)])
            return Procedure(name, (), ("case",) + cases)
        if kind == "call":
            return Procedure(name, (), self.of_call(row, what))
        return Procedure(name, ("leave",), self.of_answer(row, what))

    def procedures_made(self):
        """All procedures; main begins the first row."""
        main = Procedure("main", (), self.to_point(self.rows[0][0], 0))
        return (main,) + tuple([self.procedure_of(key) for key in self.named_by])
