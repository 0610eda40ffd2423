"""Finds values of contexts that fit together: each is what is told by those of all that it needs."""

from handedworld.errors import TooMany

ENTERED_FOR_EACH = 20


class Ledger:
    """Values of contexts, which grow, or shrink, until they fit together.

    The looker has a method `look(context, book)`: the pair of the new value of a context
    and the list of all contexts for which it asked the book.
    """

    def __init__(self, looker, missing, limit):
        self.looker = looker
        self.missing = missing
        self.limit = limit
        self.book = {}
        self.asks = {}
        self.askers = {}
        self.stale = {}
        self.renewals = 0

    def enter(self, context):
        """Enters a context, if it is not known yet."""
        if context not in self.book:
            self.book[context] = self.missing
            self.asks[context] = []
            self.askers[context] = {}
            self.stale[context] = True

    def renew(self, context):
        """Looks at a context; if its value is another one now, those that ask for it are stale."""
        self.renewals += 1
        self.stale[context] = False
        value, asked = self.looker.look(context, self.book)
        self.asks[context] = asked
        for other in asked:
            self.enter(other)
            self.askers[other][context] = True
        if value != self.book[context]:
            self.book[context] = value
            for asker in self.askers[context]:
                self.stale[asker] = True

    def visit(self, first, seen):
        """Goes through all that is needed from a context on, what is needed ahead of what needs it.

        So few contexts are looked at that only lesser, or greater, values need. What is seen
        already is not gone through again.
        """
        ahead = [] if first in seen else [first]
        seen[first] = True
        while len(ahead) > 0 and len(seen) <= self.limit:
            context = ahead[-1]
            fresh = [other for other in self.asks[context] if other not in seen]
            if len(fresh) > 0:
                seen[fresh[0]] = True
                ahead.append(fresh[0])
            elif self.stale[context]:
                self.renew(context)
            else:
                ahead.pop()

    def visit_many(self, firsts):
        """The same for several contexts; if there are too many, those that are stale are renewed before they count."""
        seen = {}
        for first in firsts:
            self.visit(first, seen)
        if len(seen) > self.limit:
            for context in list(seen):
                if self.stale[context]:
                    self.renew(context)
        return seen

    def settle(self, first):
        """The dict of the values of a context and of all that are needed from it on."""
        return self.settle_all([first])

    def settle_all(self, firsts):
        """The dict of the values of several contexts and of all that are needed from them on."""
        for first in firsts:
            self.enter(first)
        while True:
            before = self.renewals
            seen = self.visit_many(firsts)
            if self.renewals == before and len(seen) <= self.limit:
                return {context: self.book[context] for context in sorted(list(seen))}
            if self.renewals == before or len(self.book) > ENTERED_FOR_EACH * self.limit:
                raise TooMany(self.limit)
