"""Programs without "and", looked at forward: what their runs can come to."""

from handedworld.errors import InvalidOperation
from handedworld.events.looks import Layout, Look, joined
from handedworld.reckon.books import MAX_CONTEXTS
from handedworld.reckon.checks import check_program
from handedworld.reckon.ledgers import Ledger
from handedworld.runs.runs import check_begin


class Ends:
    """Looks at plain contexts for the ends and the events of their runs."""

    def __init__(self, layout):
        self.layout = layout

    def look(self, context, book):
        """What is found by the book, together with what it has, and the plain contexts that are needed."""
        look = Look(self.layout, context, book, {})
        ends, events, _ = look.whole()
        before = book[context]
        return (joined(before[0], ends), joined(before[1], events)), list(look.asked)


class Lasts:
    """Looks at plain contexts for the modes from which their runs last, by the book of their ends."""

    def __init__(self, layout, settled):
        self.layout = layout
        self.settled = settled

    def look(self, context, book):
        """What is found by the sets of the book, as far as it has it, and the plain contexts that are needed."""
        look = Look(self.layout, context, self.settled, book)
        return look.whole()[2] & book[context], list(look.asked)


def check_one_sided(program):
    """Refuses a program in which the other side has a choice."""
    if "and" in program.sides:
        raise InvalidOperation("an and stands in some body")


def settled_ends(layout):
    """The book of the ends and events of all that is needed from main on."""
    ledger = Ledger(Ends(layout), (layout.flat(0), layout.flat(0)), MAX_CONTEXTS)
    return ledger.settle(layout.first())


def settled_lasts(layout, settled):
    """The dict of the lasting sets of all that is needed from main on."""
    every = (1 << layout.breadth) - 1
    return Ledger(Lasts(layout, settled), every, MAX_CONTEXTS).settle(layout.first())


def pairs_in(ends):
    """The ascending tuple of the pairs of a relation that is told by sets."""
    modes = range(len(ends))
    return tuple([(begin, end) for begin in modes for end in modes if ends[begin] >> end & 1 == 1])


def plain_context(context):
    """A context with its relations as pairs."""
    name, meanings, around = context
    return (name, tuple([pairs_in(one) for one in meanings]), tuple([pairs_in(one) for one in around]))


def plain_book(book):
    """A dict with its contexts told by pairs, in ascending order."""
    told = {plain_context(context): book[context] for context in book}
    return {context: told[context] for context in sorted(list(told))}


def events_in(layout, events):
    """The ascending tuple of the events that are told by sets."""
    return tuple([(mode, what) for mode, number in enumerate(events) for what in layout.whats.listed_in(number)])


def forward_book(program):
    """The least forward book of main and of all plain contexts that are needed from it on."""
    check_program(program)
    check_one_sided(program)
    layout = Layout(program)
    book = plain_book(settled_ends(layout))
    return {context: (pairs_in(book[context][0]), events_in(layout, book[context][1])) for context in book}


def lasting_sets(program):
    """The dict of the own lasting sets of the same plain contexts."""
    check_program(program)
    check_one_sided(program)
    layout = Layout(program)
    return plain_book(settled_lasts(layout, settled_ends(layout)))


def ends_forward(program, start):
    """The ascending tuple of the modes in which runs from a mode can end."""
    check_begin(program, start)
    check_one_sided(program)
    layout = Layout(program)
    ends, _ = settled_ends(layout)[layout.first()]
    return tuple([end for end in range(layout.breadth) if ends[start] >> end & 1 == 1])


def events_forward(program, start):
    """The ascending tuple of what runs from a mode can come to."""
    check_begin(program, start)
    check_one_sided(program)
    layout = Layout(program)
    _, events = settled_ends(layout)[layout.first()]
    return tuple(layout.whats.listed_in(events[start]))


def lasts_forward(program, start):
    """Whether some run from a mode goes on for ever."""
    check_begin(program, start)
    check_one_sided(program)
    layout = Layout(program)
    return settled_lasts(layout, settled_ends(layout))[layout.first()] >> start & 1 == 1
