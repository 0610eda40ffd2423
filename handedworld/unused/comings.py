"""Finds the places to which runs come, by looking at all runs forward."""

from handedworld.base.edits import all_by_own_side, paths_of
from handedworld.events.forward import settled_ends
from handedworld.events.looks import Layout, Look, joined
from handedworld.reckon.books import MAX_CONTEXTS
from handedworld.reckon.ledgers import Ledger


class Coming(Look):
    """Looks for places, too: a run that takes a term comes to its place, which is an event.

    The book has the ends and all other events already, so no other plain contexts are needed.
    """

    def __init__(self, layout, context, book, found):
        Look.__init__(self, layout, context, book, {})
        self.named_here = context[0]
        self.come_to = found

    def known(self, context):
        """The ends and the events of the book, with the places that are found so far."""
        ends, events = self.book[context]
        return (ends, joined(events, self.come_to.get(context, self.empty[1])))

    def noted(self, number, told):
        """What a term can do: it is come to from each mode."""
        here = self.layout.whats.bit(("place", self.named_here, number))
        return (told[0], tuple([events | here for events in told[1]]), told[2])


class Comings:
    """Looks at plain contexts for the places of their runs, by the book of their ends and other events."""

    def __init__(self, layout, book):
        self.layout = layout
        self.book = book

    def look(self, context, found):
        """The events by those that are found so far, together with these, and the plain contexts that are needed."""
        look = Coming(self.layout, context, self.book, found)
        return joined(found[context], look.whole()[1]), list(look.asked)


def events_of_main(layout):
    """For each mode the set of the events of runs from it, with the places to which they come."""
    book = settled_ends(layout)
    found = Ledger(Comings(layout, book), layout.flat(0), MAX_CONTEXTS).settle(layout.first())
    return found[layout.first()]


def places_come_to(program):
    """The ascending list of the places to which some run comes."""
    layout = Layout(all_by_own_side(program))
    whats = [what for number in events_of_main(layout) for what in layout.whats.listed_in(number)]
    rows = {what[1:]: True for what in whats if what[0] == "place"}
    paths = {name: paths_of(program[name].body) for name in program.names}
    return sorted([(name, paths[name][number]) for name, number in rows])
