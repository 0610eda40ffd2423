"""A desk: a program that changes, with promises that stay kept."""

from handedworld.base.words import is_name, is_number
from handedworld.errors import InvalidNumber, InvalidOperation, NothingToUndo, Refused, UnknownName
from handedworld.house.promises import is_promise, is_promise_kept
from handedworld.reckon.checks import check_program
from handedworld.same.editions import exchanged, without_term


def check_kept(program, promises):
    """Refuses a program by the first promise, in the order of the names, that it would not keep."""
    for name in sorted(list(promises)):
        if not is_promise_kept(program, promises[name]):
            raise Refused(name)


class Trial:
    """A block of work at a desk, behind which the desk is as it was."""

    def __init__(self, desk):
        self.desk = desk
        self.was_entered = False
        self.held_sheets = ()
        self.held_top = 0

    def __enter__(self):
        if self.was_entered:
            raise InvalidOperation("a trial is for one block")
        self.was_entered = True
        self.held_sheets = self.desk._sheets
        self.held_top = self.desk._top
        return self.desk

    def __exit__(self, kind, value, trace):
        desk = self.desk
        desk._sheets = self.held_sheets
        desk._top = self.held_top


class Desk:
    """A program that changes, with promises that stay kept.

    A sheet is a triple of the call that made it, the program, and the promises; sheets
    never change. The present one is on top, those behind it can be done again.
    """

    def __init__(self, program):
        check_program(program)
        self._sheets = ((None, program, {}),)
        self._top = 0

    @property
    def program(self):
        """The program."""
        return self._sheets[self._top][1]

    @property
    def promises(self):
        """The dict from names to promises."""
        kept = self._sheets[self._top][2]
        return {name: kept[name] for name in sorted(list(kept))}

    @property
    def deeds(self):
        """The names of the calls that have not been taken back, in their order."""
        return tuple([sheet[0] for sheet in self._sheets[1:self._top + 1]])

    def lay(self, call, program, promises):
        """Puts a new sheet on top; what was taken back cannot be done again."""
        self._sheets = self._sheets[:self._top + 1] + ((call, program, promises),)
        self._top += 1

    def promise(self, name, *terms):
        """Promises what the terms tell, under a new name."""
        promises = self.promises
        if not is_name(name) or name in promises:
            raise InvalidOperation("this is no new name")
        if not is_promise(terms):
            raise InvalidOperation("this is no promise")
        if not is_promise_kept(self.program, terms):
            raise Refused(name)
        self.lay("promise", self.program, {**promises, name: terms})

    def forget(self, name):
        """Takes back the promise with this name."""
        if name not in self:
            raise UnknownName(name)
        promises = self.promises
        self.lay("forget", self.program, {other: promises[other] for other in promises if other != name})

    def change(self, call, program):
        """Takes another program, if it keeps all promises."""
        check_kept(program, self.promises)
        self.lay(call, program, self.promises)

    def put(self, program):
        """Takes another program."""
        check_program(program)
        self.change("put", program)

    def leave_out(self, name, number, index):
        """Takes the program without a term of a choice."""
        self.change("leave_out", without_term(self.program, name, number, index))

    def exchange(self, one, other):
        """Takes the program in which calls of one procedure are calls of another one."""
        self.change("exchange", exchanged(self.program, one, other))

    def turn_over(self, many, most, step):
        """Takes back, or does again, so many calls, if there are so many; returns how many can be taken back then."""
        if not is_number(many) or many < 0:
            raise InvalidNumber(many)
        if many > most:
            raise NothingToUndo(many)
        self._top = self._top + many * step
        return self._top

    def undo(self, *, many=1):
        """Takes back the last calls."""
        return self.turn_over(many, self._top, -1)

    def redo(self, *, many=1):
        """Does again the calls that were taken back last."""
        return self.turn_over(many, len(self._sheets) - 1 - self._top, 1)

    def trial(self):
        """For a block behind which the desk is as it was."""
        return Trial(self)

    def during(self, call):
        """What a call makes of the desk, which is as it was afterwards."""
        with self.trial() as same:
            return call(same)

    def twin(self):
        """An independent copy, also of what can be taken back and done again."""
        other = Desk(self.program)
        other._sheets = self._sheets
        other._top = self._top
        return other

    def __getitem__(self, at):
        if at not in self:
            raise UnknownName(at)
        return self._sheets[self._top][2][at]

    def __iter__(self):
        raise TypeError("a desk cannot be iterated over")

    def __len__(self):
        return len(self._sheets[self._top][2])

    def __contains__(self, value):
        return is_name(value) and value in self._sheets[self._top][2]

    def __eq__(self, other):
        return isinstance(other, Desk) and self.program == other.program and self.promises == other.promises

    def __str__(self):
        return f"desk of {len(self.program)} procedures, {len(self)} promises"
