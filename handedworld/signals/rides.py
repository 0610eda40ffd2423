"""A ride that is under way: each move makes a new stand of it, and changes none."""

from handedworld.signals.moves import moves_at


class Open:
    """A call or a raise that is open: where its row goes on, and what it can come to."""

    def __init__(self, stand, there):
        self.row = stand.row
        self.there = there
        self.around = stand.around
        self.helps = ()
        self.unwinds = ()
        self.caught = None


class Stand:
    """Where a ride is.

    What is open is a tuple; `around` has the places in it of those calls that count for
    raises of the row that is at work, the outermost first.
    """

    def __init__(self, now, row, point, held, around):
        self.now = now
        self.row = row
        self.point = point
        self.held = held
        self.around = around
        self.out = None
        self.fate = "going"


def begun(chart, start):
    """Where a ride begins."""
    return Stand(start, chart[0][0], 0, (), ())


def finished(stand, fate, signal):
    """Where a ride is that was left, or from which a signal came out."""
    after = Stand(stand.now, None, 0, (), ())
    after.fate = fate
    after.out = signal
    return after


def ahead_of(chart, stand):
    """The list of the moves that can be made next, in their order."""
    if stand.fate != "going":
        return []
    return moves_at(chart, stand.row, stand.point, stand.now)


def called(stand, move):
    """Behind a call: its row is begun, with its answers around it."""
    opened = Open(stand, move[2])
    opened.helps = move[4]
    return Stand(stand.now, move[3], 0, stand.held + (opened,), stand.around + (len(stand.held),))


def answer_to(stand, signal):
    """The place of the nearest call that counts and answers the signal, with its answer; or None."""
    for place in stand.around[::-1]:
        for answer in stand.held[place].helps:
            if answer[0] == signal:
                return place, answer
    return None


def raised(stand, move):
    """Behind a raise: the row of the answer is begun, or the signal comes out."""
    found = answer_to(stand, move[3])
    if found is None:
        return finished(stand, "asking", move[3])
    place, answer = found
    opened = Open(stand, move[2])
    opened.unwinds = answer[2]
    opened.caught = place
    return Stand(stand.now, answer[1], 0, stand.held + (opened,), stand.held[place].around)


def left(stand):
    """Behind a leave: the row goes on that called, or raised, or that is told for this mode."""
    if len(stand.held) == 0:
        return finished(stand, "left", None)
    last = stand.held[-1]
    for mode, point in last.unwinds:
        if mode == stand.now:
            call = stand.held[last.caught]
            return Stand(stand.now, call.row, point, stand.held[:last.caught], call.around)
    return Stand(stand.now, last.row, last.there, stand.held[:-1], last.around)


def moved(stand, move):
    """Where a ride is behind a move."""
    if move[0] == "go":
        return Stand(move[4], stand.row, move[2], stand.held, stand.around)
    if move[0] == "call":
        return called(stand, move)
    if move[0] == "raise":
        return raised(stand, move)
    return left(stand)
