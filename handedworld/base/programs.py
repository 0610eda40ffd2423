"""Programs: modes, signals and procedures."""

from handedworld.base.forms import terms_of
from handedworld.base.procedures import Procedure, ascending
from handedworld.base.words import MAX_MODES, are_ascending, are_names, is_index, is_name
from handedworld.errors import InvalidOperation, InvalidProgram, UnknownName

MAX_PROCEDURES = 10
MAX_SIGNALS = 2


def are_signals(value):
    """Whether the value can be the signals of a program."""
    return are_names(value) and len(value) <= MAX_SIGNALS and are_ascending(value)


def are_procedures(value):
    """Whether a tuple has procedures with different names, among them a main procedure."""
    if len(value) > MAX_PROCEDURES or not all([isinstance(one, Procedure) for one in value]):
        return False
    arities = {one.named: len(one.parameters) for one in value}
    return len(arities) == len(value) and arities.get("main") == 0


def term_fits(term, modes, signals, arities):
    """Whether a term, without those in it, fits into a program."""
    kind = term[0]
    if kind == "do":
        entries = [entry for entry in term[2] if entry is not None]
        return len(term[2]) == modes and all([entry < modes for entry in entries])
    if kind == "case":
        return len(term) - 1 == modes
    if kind == "call":
        return arities.get(term[1]) == len(term) - 2
    if kind == "raise":
        return term[1] in signals
    if kind == "answer":
        return all([pair[0] in signals for pair in term[1]])
    return True


def is_program_of(modes, signals, procedures):
    """Whether these are the modes, signals and procedures of a program."""
    if not is_index(modes, MAX_MODES + 1) or modes == 0:
        return False
    if not are_signals(signals) or not are_procedures(procedures):
        return False
    arities = {one.named: len(one.parameters) for one in procedures}
    terms = [term for procedure in procedures for term in terms_of(procedure.body)]
    return all([term_fits(term, modes, signals, arities) for term in terms])


def sides_in(procedures):
    """The ascending tuple of those of "and" and "or" that stand in some body."""
    kinds = [term[0] for one in procedures for term in terms_of(one.body)]
    return tuple([side for side in ("and", "or") if side in kinds])


class Program:
    """A program, which never changes."""

    def __init__(self, modes, signals, *procedures):
        if not is_program_of(modes, signals, procedures):
            raise InvalidProgram("this is no program")
        self._modes = modes
        self._signals = signals
        self._procedures = procedures
        self._table = {one.named: one for one in procedures}
        self._names = ascending([one.named for one in procedures])
        self._words = ascending([word for one in procedures for word in one.words])
        self._sides = sides_in(procedures)

    @classmethod
    def of(cls, modes, signals, procedures):
        """The program with the procedures of a tuple."""
        if not isinstance(procedures, tuple):
            return cls(modes, signals, None)
        return cls(modes, signals, *procedures)

    @property
    def modes(self):
        """The number of modes."""
        return self._modes

    @property
    def signals(self):
        """The ascending tuple of the signals."""
        return self._signals

    @property
    def procedures(self):
        """The tuple of the procedures, in their order."""
        return self._procedures

    @property
    def names(self):
        """The ascending tuple of the names of the procedures."""
        return self._names

    @property
    def words(self):
        """The ascending tuple of the words of all deeds."""
        return self._words

    @property
    def sides(self):
        """The ascending tuple of those of "and" and "or" that stand in some body."""
        return self._sides

    def with_procedure(self, procedure):
        """The program with this procedure, in the place of the one with its name or as the last one."""
        if not isinstance(procedure, Procedure):
            raise InvalidProgram("this is no procedure")
        if procedure.named not in self._table:
            return Program.of(self._modes, self._signals, self._procedures + (procedure,))
        rows = [procedure if one.named == procedure.named else one for one in self._procedures]
        return Program.of(self._modes, self._signals, tuple(rows))

    def without(self, name):
        """The program without the procedure with this name."""
        if name not in self:
            raise UnknownName(name)
        rows = tuple([one for one in self._procedures if one.named != name])
        if not is_program_of(self._modes, self._signals, rows):
            raise InvalidOperation("without this procedure it is no program")
        return Program.of(self._modes, self._signals, rows)

    def with_signals(self, signals):
        """The program with other signals."""
        return Program.of(self._modes, signals, self._procedures)

    def __getitem__(self, at):
        if not is_name(at) or at not in self._table:
            raise UnknownName(at)
        return self._table[at]

    def __iter__(self):
        raise TypeError("a program cannot be iterated over")

    def __len__(self):
        return len(self._procedures)

    def __contains__(self, value):
        return is_name(value) and value in self._table

    def __eq__(self, other):
        return (
            isinstance(other, Program)
            and self._modes == other._modes
            and self._signals == other._signals
            and self._procedures == other._procedures
        )

    def __str__(self):
        return f"program of {self._modes} modes, {len(self._signals)} signals, {len(self._procedures)} procedures"
