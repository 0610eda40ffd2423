"""A shell: programs under names, and commands about them."""

from handedworld.ask.goals import can_keep, can_reach
from handedworld.base.words import is_name
from handedworld.errors import InvalidCommand, InvalidOperation, TooMany, UnknownName
from handedworld.same.editions import exchanged, without_term
from handedworld.same.entries import are_alike
from handedworld.signals.led import led
from handedworld.text.commands import told_in
from handedworld.text.texts import read_program, write_program
from handedworld.unused.trim import is_idle

MAX_PROGRAMS = 8


def told_text(program):
    """The text of a program."""
    return write_program(program)


def told_reach(program, start, number):
    """Whether the program reaches an end in a set."""
    return can_reach(program, start, ("end", number))


def told_keep(program, start, number):
    """Whether the program keeps to an end in a set."""
    return can_keep(program, start, ("end", number))


def told_deed(program, start, word):
    """Whether the program reaches a deed."""
    return can_reach(program, start, ("deed", word))


def told_signal(program, start, signal):
    """Whether the program reaches that a signal comes out."""
    return can_reach(program, start, ("signal", signal))


def told_idle(program, name, parameter):
    """Whether a parameter is idle."""
    return is_idle(program, name, parameter)


def told_alike(program, one, other):
    """Whether two procedures are alike for reaching."""
    return are_alike(program, one, other)


def cut(program, name, number, index):
    """The program without a branch."""
    return without_term(program, name, number, index)


def turned(program, one, other):
    """The program with calls of another procedure."""
    return exchanged(program, one, other)


QUESTIONS = {
    "text": told_text,
    "reach": told_reach,
    "keep": told_keep,
    "does": told_deed,
    "raises": told_signal,
    "idle": told_idle,
    "alike": told_alike,
}
CHANGES = {"cut": cut, "turn": turned}


class Shell:
    """Programs under names."""

    def __init__(self):
        self._programs = {}
        self._script = ()

    @classmethod
    def replayed(cls, script):
        """The shell behind the commands of a tuple."""
        if not isinstance(script, tuple):
            raise InvalidCommand("a script is a tuple of commands")
        shell = cls()
        for command in script:
            shell.run(command)
        return shell

    @property
    def names(self):
        """The ascending tuple of the names of the programs."""
        return tuple(sorted(list(self._programs)))

    @property
    def programs(self):
        """The dict from the names to the programs."""
        return {name: self._programs[name] for name in sorted(list(self._programs))}

    @property
    def script(self):
        """The commands that made the programs, in their order."""
        return self._script

    def run(self, command):
        """Does a command, and returns its reply."""
        kind, told, below = told_in(command)
        if kind != "new" and told[0] not in self:
            raise UnknownName(told[0])
        rest = told[1:]
        if kind in QUESTIONS:
            ask = QUESTIONS[kind]
            return ask(self._programs[told[0]], *rest)
        reply = self.change(kind, told, below)
        self._script = self._script + (command,)
        return reply

    def change(self, kind, told, below):
        """Does a command that changes the programs, and returns its reply."""
        name = told[0]
        rest = told[1:]
        if kind == "drop":
            del self._programs[name]
            return None
        if kind in CHANGES:
            make = CHANGES[kind]
            self._programs[name] = make(self._programs[name], *rest)
            return write_program(self._programs[name])
        return self.enter(kind, told, below)

    def enter(self, kind, told, below):
        """Makes one program more, and returns the reply."""
        name = told[-1]
        if name in self:
            raise InvalidOperation("there is a program with this name")
        if kind == "new":
            found = read_program(below)
        else:
            found = led(self._programs[told[0]]) if kind == "plain" else self._programs[told[0]]
        if len(self._programs) == MAX_PROGRAMS:
            raise TooMany(MAX_PROGRAMS)
        self._programs[name] = found
        if kind == "new":
            return str(found)
        return write_program(found) if kind == "plain" else None

    def __call__(self, command):
        return self.run(command)

    def __len__(self):
        return len(self._programs)

    def __contains__(self, value):
        return is_name(value) and value in self._programs

    def __eq__(self, other):
        return isinstance(other, Shell) and self._programs == other._programs

    def __str__(self):
        return f"shell of {len(self._programs)} programs"
