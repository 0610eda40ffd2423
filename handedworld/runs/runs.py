"""Runs of a program by the choices of both sides."""

from handedworld.base.programs import Program
from handedworld.base.words import is_index, is_name, is_number
from handedworld.errors import InvalidNumber, InvalidOperation, InvalidProgram
from handedworld.runs.walks import Walk

MAX_STEPS = 1000
MAX_MOST = 6


def check_begin(program, start):
    """Refuses what is no program, and what is no mode of it."""
    if not isinstance(program, Program):
        raise InvalidProgram("this is no program")
    if not is_index(start, program.modes):
        raise InvalidNumber(start)


def check_until(until):
    """Refuses what is neither None nor a name."""
    if until is not None and not is_name(until):
        raise InvalidOperation("a run goes on until a name is done, or None")


class Run:
    """A run, which never changes."""

    def __init__(self, program, start, *choices, until=None):
        check_begin(program, start)
        if not all([is_number(index) and index >= 0 for index in choices]):
            raise InvalidOperation("choices are integers from 0 on")
        check_until(until)
        walk = Walk(program, start, choices, until)
        walk.go(MAX_STEPS)
        waits = walk.fate == "waiting"
        self._program = program
        self._start = start
        self._choices = choices
        self._until = until
        self._state = walk.fate
        self._mode = walk.now
        self._words = tuple(walk.done)
        self._modes = tuple(walk.trail)
        self._steps = walk.taken
        self._side = walk.term_ahead()[0] if waits else None
        self._options = len(walk.term_ahead()) - 1 if waits else 0
        self._signal = walk.out
        self._scopes = tuple([label for label, _ in walk.around])

    @classmethod
    def of(cls, program, start, choices, *, until=None):
        """The run by the choices of a tuple."""
        if not isinstance(choices, tuple):
            return cls(program, start, None, until=until)
        return cls(program, start, *choices, until=until)

    @property
    def program(self):
        """The program."""
        return self._program

    @property
    def start(self):
        """The mode in which it begins."""
        return self._start

    @property
    def choices(self):
        """The choices of both sides, in their order."""
        return self._choices

    @property
    def until(self):
        """The word of the deed at which it stops, or None."""
        return self._until

    @property
    def state(self):
        """One of "done", "ended", "stuck", "asking", "far" and "waiting"."""
        return self._state

    @property
    def mode(self):
        """The mode at last."""
        return self._mode

    @property
    def words(self):
        """The words of the deeds that were done, in their order."""
        return self._words

    @property
    def modes(self):
        """The mode at the start, and those behind each deed that was done."""
        return self._modes

    @property
    def steps(self):
        """The number of the steps that were taken."""
        return self._steps

    @property
    def side(self):
        """The word of the choice at which it waits, or None."""
        return self._side

    @property
    def options(self):
        """The number of the terms at which it waits, or 0."""
        return self._options

    @property
    def signal(self):
        """The signal that came out, or None."""
        return self._signal

    @property
    def scopes(self):
        """The labels of the open scopes, the outermost first."""
        return self._scopes

    def chosen(self, *more):
        """The run with more choices at the end."""
        return Run.of(self._program, self._start, self._choices + more, until=self._until)

    def begun(self, many):
        """The run with so many of its first choices only."""
        if not is_index(many, len(self._choices) + 1):
            raise InvalidNumber(many)
        return Run.of(self._program, self._start, self._choices[:many], until=self._until)

    def __len__(self):
        return len(self._choices)

    def __eq__(self, other):
        return (
            isinstance(other, Run)
            and self._program == other._program
            and self._start == other._start
            and self._choices == other._choices
            and self._until == other._until
        )

    def __str__(self):
        return f"run by {len(self._choices)} choices, {self._state} in {self._mode}"


def each_run(program, start, most, *, until=None):
    """Yields the runs of at most so many choices, in the ascending order of their choices."""
    check_begin(program, start)
    if not is_index(most, MAX_MOST + 1):
        raise InvalidNumber(most)
    check_until(until)
    ahead = [()]
    while len(ahead) > 0:
        run = Run.of(program, start, ahead.pop(), until=until)
        if run.state == "waiting" and len(run) < most:
            ahead.extend([run.choices + (index,) for index in range(run.options - 1, -1, -1)])
        else:
            yield run
