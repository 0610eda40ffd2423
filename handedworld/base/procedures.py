"""Procedures: a name, parameters and a body, which is a term."""

from handedworld.base.forms import has_form, terms_in, terms_of
from handedworld.base.words import are_names, is_name
from handedworld.errors import InvalidProgram

MAX_PARAMETERS = 3
MAX_DEPTH = 6
MAX_TERMS = 40


def are_parameters(value):
    """Whether the value can be the parameters of a procedure."""
    return are_names(value) and len(value) <= MAX_PARAMETERS


def is_small(value):
    """Whether the value is a term that is neither too deep nor too long.

    It is looked at level by level, so that what is much too large is refused early.
    """
    level = [value]
    many = 0
    for _ in range(MAX_DEPTH):
        many = many + len(level)
        if many > MAX_TERMS or not all([has_form(term) for term in level]):
            return False
        level = [part for term in level for part in terms_in(term)]
    return len(level) == 0


def exits_fit(term, labels):
    """Whether each exit stands in a scope with its label; these are around the term."""
    if term[0] == "exit":
        return term[1] in labels
    inner = labels
    if term[0] == "scope":
        inner = labels + (term[1],)
    return all([exits_fit(part, inner) for part in terms_in(term)])


def is_bound(body, parameters):
    """Whether parameters, labels and exits fit together in a body."""
    terms = terms_of(body)
    if not all([term[1] in parameters for term in terms if term[0] == "run"]):
        return False
    labels = [term[1] for term in terms if term[0] == "scope"]
    return len(set(labels)) == len(labels) and exits_fit(body, ())


def is_term(value, parameters):
    """Whether the value can be the body of a procedure with these parameters."""
    if not are_parameters(parameters):
        raise InvalidProgram("these are no parameters")
    return is_small(value) and is_bound(value, parameters)


def ascending(names):
    """The ascending tuple of these names, each once."""
    return tuple(sorted(set(names)))


def named_in(terms, kind):
    """The ascending tuple of what the terms of this kind name."""
    return ascending([term[1] for term in terms if term[0] == kind])


def signals_in(terms):
    """The ascending tuple of the signals that are raised or answered in these terms."""
    raised = [term[1] for term in terms if term[0] == "raise"]
    answered = [pair[0] for term in terms if term[0] == "answer" for pair in term[1]]
    return ascending(raised + answered)


class Procedure:
    """A procedure, which never changes."""

    def __init__(self, name, parameters, body):
        if not is_name(name):
            raise InvalidProgram("a procedure needs a name")
        if not is_term(body, parameters):
            raise InvalidProgram("this is no body with these parameters")
        self._named = name
        self._parameters = parameters
        self._body = body
        self._terms = terms_of(body)
        self._words = named_in(self._terms, "do")
        self._signals = signals_in(self._terms)
        self._labels = named_in(self._terms, "scope")
        self._uses = named_in(self._terms, "call")

    @property
    def named(self):
        """Its name."""
        return self._named

    @property
    def parameters(self):
        """Its parameters, in their order."""
        return self._parameters

    @property
    def body(self):
        """Its body, a term."""
        return self._body

    @property
    def words(self):
        """The ascending tuple of the words of its deeds."""
        return self._words

    @property
    def signals(self):
        """The ascending tuple of the signals in its raises and answers."""
        return self._signals

    @property
    def labels(self):
        """The ascending tuple of the labels of its scopes."""
        return self._labels

    @property
    def uses(self):
        """The ascending tuple of the names of the procedures that it calls."""
        return self._uses

    def __len__(self):
        return len(self._terms)

    def __eq__(self, other):
        return (
            isinstance(other, Procedure)
            and self._named == other._named
            and self._parameters == other._parameters
            and self._body == other._body
        )

    def __str__(self):
        return f"procedure {self._named}, {len(self._parameters)} parameters, {len(self._terms)} terms"
