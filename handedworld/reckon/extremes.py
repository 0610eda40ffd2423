"""The least and the greatest maps of contexts with monotone maps."""

from handedworld.maps.sets import greatest_within, least_around
from handedworld.reckon.ledgers import Ledger
from handedworld.reckon.reckoner import Reckoner


class Rising(Reckoner):
    """Reckons for least maps: all of them are monotone, also by a book that is not settled yet."""

    def formed(self, one):
        """The least monotone map around what was reckoned."""
        return least_around(one)


class Falling(Reckoner):
    """Reckons for greatest maps: all of them are monotone, also by a book that is not settled yet."""

    def formed(self, one):
        """The greatest monotone map within what was reckoned."""
        return greatest_within(one)


class Least:
    """Looks at contexts for their least maps."""

    def __init__(self, plan):
        self.plan = plan

    def look(self, context, book):
        """What is reckoned, together with what the book has, and the contexts that are needed."""
        reckoner = Rising(self.plan, context, book, 0)
        found = [number | more for number, more in zip(book[context], reckoner.whole())]
        return tuple(found), list(reckoner.asked)


class Greatest:
    """Looks at contexts for their greatest maps."""

    def __init__(self, plan):
        self.plan = plan

    def look(self, context, book):
        """What is reckoned, as far as the book has it, and the contexts that are needed."""
        reckoner = Falling(self.plan, context, book, self.plan.size - 1)
        found = [number & more for number, more in zip(book[context], reckoner.whole())]
        return tuple(found), list(reckoner.asked)


def least_ledger(plan, limit):
    """A ledger for the least maps of contexts."""
    return Ledger(Least(plan), plan.flat(0), limit)


def greatest_ledger(plan, limit):
    """A ledger for the greatest maps of contexts."""
    return Ledger(Greatest(plan), plan.flat(plan.size - 1), limit)


def least_book(plan, context, limit):
    """The book of the least maps of a context and of all that are needed from it on."""
    return least_ledger(plan, limit).settle(context)


def greatest_book(plan, context, limit):
    """The book of the greatest maps of a context and of all that are needed from it on."""
    return greatest_ledger(plan, limit).settle(context)
