"""Charts: procedures by points, the rides through them, and the programs that go along."""

from handedworld.base.programs import MAX_PROCEDURES, Program, are_signals
from handedworld.base.words import is_index
from handedworld.errors import InvalidNumber, InvalidOperation, InvalidProgram, TooMany
from handedworld.maps.spaces import check_modes
from handedworld.signals.moves import fits_chart
from handedworld.signals.rides import ahead_of, begun, moved
from handedworld.signals.routes import Route, route_keys

MAX_CHART_MODES = 2
MAX_CHOICES = 200


def is_chart(modes, signals, value):
    """Whether the value is a chart with so many modes and these signals."""
    check_modes(modes, MAX_CHART_MODES)
    if not are_signals(signals):
        raise InvalidProgram("these are no signals of a program")
    return fits_chart(modes, signals, value)


def check_chart(modes, signals, chart):
    """Refuses wrong modes and signals, and what is no chart."""
    if not is_chart(modes, signals, chart):
        raise InvalidOperation("this is no chart")


def stand_behind(chart, start, choices):
    """Where a ride is behind these choices."""
    stand = begun(chart, start)
    for index in choices:
        ahead = ahead_of(chart, stand)
        if not is_index(index, len(ahead)):
            raise InvalidOperation("a choice is not the index of a move that can be made")
        stand = moved(stand, ahead[index])
    return stand


class Ride:
    """A run of a chart, which never changes."""

    def __init__(self, modes, signals, chart, start, *choices):
        check_chart(modes, signals, chart)
        if not is_index(start, modes):
            raise InvalidNumber(start)
        stand = stand_behind(chart, start, choices)
        if len(choices) > MAX_CHOICES:
            raise TooMany(MAX_CHOICES)
        self._modes = modes
        self._signals = signals
        self._chart = chart
        self._start = start
        self._choices = choices
        self._mode = stand.now
        self._options = len(ahead_of(chart, stand))
        self._state = stand.fate
        self._signal = stand.out
        self._depth = len(stand.held)
        self._place = None
        if stand.fate == "going":
            self._place = (stand.row, stand.point)
            if self._options == 0:
                self._state = "stuck"

    @classmethod
    def of(cls, modes, signals, chart, start, choices):
        """The ride by the choices of a tuple."""
        if not isinstance(choices, tuple):
            return cls(modes, signals, chart, start, None)
        return cls(modes, signals, chart, start, *choices)

    @property
    def modes(self):
        """The number of modes."""
        return self._modes

    @property
    def signals(self):
        """The ascending tuple of the signals."""
        return self._signals

    @property
    def chart(self):
        """The chart."""
        return self._chart

    @property
    def start(self):
        """The mode in which it begins."""
        return self._start

    @property
    def choices(self):
        """The indices of the moves that were made, among those that could be made."""
        return self._choices

    @property
    def mode(self):
        """The present mode."""
        return self._mode

    @property
    def state(self):
        """One of "going", "left", "asking" and "stuck"."""
        return self._state

    @property
    def signal(self):
        """The signal that came out, or None."""
        return self._signal

    @property
    def place(self):
        """The pair of the name and the point of the row that is at work, or None."""
        return self._place

    @property
    def depth(self):
        """The number of the calls and raises that are open."""
        return self._depth

    @property
    def options(self):
        """The number of the moves that can be made."""
        return self._options

    def back(self, *, many=1):
        """The ride without so many of its last choices."""
        if not is_index(many, len(self._choices) + 1):
            raise InvalidNumber(many)
        choices = self._choices[:len(self._choices) - many]
        return Ride(self._modes, self._signals, self._chart, self._start, *choices)

    def __add__(self, other):
        return Ride(self._modes, self._signals, self._chart, self._start, *self._choices, other)

    def __len__(self):
        return len(self._choices)

    def __eq__(self, other):
        return (
            isinstance(other, Ride)
            and self._modes == other._modes
            and self._signals == other._signals
            and self._chart == other._chart
            and self._start == other._start
            and self._choices == other._choices
        )

    def __str__(self):
        return f"ride of {len(self._choices)} moves, {self._state} in {self._mode}"


def led_in(modes, signals, chart):
    """A program whose runs go along with the rides of a chart."""
    check_chart(modes, signals, chart)
    if len(route_keys(chart)) >= MAX_PROCEDURES:
        raise TooMany(MAX_PROCEDURES)
    return Program.of(modes, signals, Route(modes, chart).procedures_made())
