"""Books with few claims: just enough of them for what is claimed by the book behind."""

from handedworld.maps.sets import map_within
from handedworld.reckon.reckoner import Reckoner


class Trim:
    """A book that is made smaller as long as the claims of the book behind it are still reckoned by it.

    A claim of a mode is given up by taking for it what counts where a context is left out.
    """

    def __init__(self, plan, rest, book, behind):
        self.plan = plan
        self.rest = rest
        self.book = {context: book[context] for context in book}
        self.behind = behind
        self.asks = {context: self.asked_for(context) for context in behind}

    def asked_for(self, context):
        """The dict of what a claim of the book behind asks for; None if it is not reckoned."""
        reckoner = Reckoner(self.plan, context, self.book, self.rest)
        found = reckoner.whole()
        claimed = self.behind[context]
        fits = map_within(claimed, found) if self.rest == 0 else map_within(found, claimed)
        return reckoner.asked if fits else None

    def without_mode(self, one, mode):
        """A map that claims nothing of a mode."""
        bit = 1 << mode
        return tuple([number - (number & bit) | self.rest & bit for number in one])

    def change(self, context, one):
        """Takes another map for a context, if all claims behind are still reckoned; returns whether they are."""
        before = self.book[context]
        self.book[context] = one
        after = {}
        for asker in self.behind:
            if context in self.asks[asker]:
                after[asker] = self.asked_for(asker)
                if after[asker] is None:
                    self.book[context] = before
                    return False
        self.asks.update(after)
        return True

    def trimmed(self):
        """The book with those claims alone that cannot be given up, one after the other."""
        missing = self.plan.flat(self.rest)
        for context in list(self.book):
            if not self.change(context, missing):
                for mode in range(self.plan.breadth):
                    self.change(context, self.without_mode(self.book[context], mode))
        return {context: self.book[context] for context in self.book if self.book[context] != missing}
