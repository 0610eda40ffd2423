"""What is idle in a program, and the program without it."""

from handedworld.base.edits import paths_of, term_on, with_parts
from handedworld.base.forms import terms_in
from handedworld.base.procedures import Procedure
from handedworld.base.programs import Program
from handedworld.errors import UnknownName
from handedworld.reckon.checks import check_known, check_program
from handedworld.unused.comings import places_come_to

NEVER = "never"


class Sifter:
    """A program with all of its places that are met."""

    def __init__(self, program):
        self.text = program
        self.come_to = {place: True for place in places_come_to(program)}
        self.paths = {name: paths_of(program[name].body) for name in program.names}

    def is_met(self, name, path):
        """Whether the place is met."""
        return (name, path) in self.come_to

    def places_of(self, kind):
        """The ascending list of the places of terms of a kind."""
        found = [(name, path) for name in self.text.names for path in self.paths[name]]
        return [(name, path) for name, path in found if term_on(self.text[name].body, path)[0] == kind]

    def is_any_met(self, name, term):
        """Whether some place of a body is met at which just this term stands."""
        body = self.text[name].body
        return any([self.is_met(name, path) and term_on(body, path) == term for path in self.paths[name]])

    def idle_inputs(self):
        """The ascending list of the pairs of names and parameters that are run nowhere."""
        pairs = [(name, x) for name in self.text.names for x in sorted(self.text[name].parameters)]
        return [(name, x) for name, x in pairs if not self.is_any_met(name, ("run", x))]

    def idle_helps(self):
        """The ascending list of the pairs of places and signals of answers that are not come to."""
        found = []
        for name, path in self.places_of("answer"):
            for index, pair in enumerate(term_on(self.text[name].body, path)[1]):
                if not self.is_met(name, path + (index,)):
                    found.append(((name, path), pair[0]))
        return found

    def is_idle_scope(self, name, label):
        """Whether no exit to a scope is met."""
        return not self.is_any_met(name, ("exit", label))

    def idle_scopes(self):
        """The ascending list of the places of scopes that are not left by an exit."""
        labels = [(place, term_on(self.text[place[0]].body, place[1])[1]) for place in self.places_of("scope")]
        return [place for place, label in labels if self.is_idle_scope(place[0], label)]


class Trimmer:
    """A program whose terms are made anew without what is idle."""

    def __init__(self, program):
        self.text = program
        self.sifter = Sifter(program)
        self.idle = {pair: True for pair in self.sifter.idle_inputs()}

    def trimmed_term(self, name, path, term):
        """The term without what is idle in it; a deed that cannot be done if it is not met."""
        if not self.sifter.is_met(name, path):
            return ("do", NEVER, tuple([None for _ in range(self.text.modes)]))
        parts = [self.trimmed_term(name, path + (index,), part) for index, part in enumerate(terms_in(term))]
        if term[0] == "scope" and self.sifter.is_idle_scope(name, term[1]):
            return parts[0]
        if term[0] == "call":
            inputs = self.text[term[1]].parameters
            return term[:2] + tuple([part for x, part in zip(inputs, parts) if (term[1], x) not in self.idle])
        if term[0] == "answer":
            return self.trimmed_answer(name, path, term, parts)
        return with_parts(term, tuple(parts))

    def trimmed_answer(self, name, path, term, parts):
        """An answer with those pairs alone that are met; its last term if there are none."""
        pairs = []
        for index, (signal, _) in enumerate(term[1]):
            if self.sifter.is_met(name, path + (index,)):
                pairs.append((signal, parts[index]))
        if len(pairs) == 0:
            return parts[-1]
        return ("answer", tuple(pairs), parts[-1])

    def whole(self):
        """The program without what is idle."""
        rows = []
        for one in self.text.procedures:
            if self.sifter.is_met(one.named, ()):
                inputs = tuple([x for x in one.parameters if (one.named, x) not in self.idle])
                rows.append(Procedure(one.named, inputs, self.trimmed_term(one.named, (), one.body)))
        return Program.of(self.text.modes, self.text.signals, tuple(rows))


def is_idle(program, name, parameter):
    """Whether a parameter of a procedure is run nowhere."""
    check_known(program, (name,))
    if parameter not in program[name].parameters:
        raise UnknownName(parameter)
    return not Sifter(program).is_any_met(name, ("run", parameter))


def idle_parameters(program):
    """The ascending tuple of the pairs of names and parameters that are run nowhere."""
    check_program(program)
    return tuple(Sifter(program).idle_inputs())


def idle_answers(program):
    """The ascending tuple of the pairs of the place of an answer and a signal that it never answers."""
    check_program(program)
    return tuple(Sifter(program).idle_helps())


def idle_scopes(program):
    """The ascending tuple of the places of scopes that are not left by an exit."""
    check_program(program)
    return tuple(Sifter(program).idle_scopes())


def idle_procedures(program):
    """The ascending tuple of the names of procedures that are not begun."""
    check_program(program)
    sifter = Sifter(program)
    return tuple([name for name in program.names if not sifter.is_met(name, ())])


def trimmed(program):
    """The program without what is idle, where what is not met cannot be done."""
    check_program(program)
    return Trimmer(program).whole()
