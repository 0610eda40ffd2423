"""Books that are reckoned one by another, from the empty one on, as far as they are needed."""

from handedworld.errors import TooMany
from handedworld.reckon.reckoner import Reckoner
from handedworld.reckon.trims import Trim

REACHED_FOR_EACH = 20


class Unknown(Exception):
    """A context is needed that is not reckoned yet."""

    def __init__(self, context):
        self.context = context


class Step(Reckoner):
    """Reckons by a book to which contexts come while they are needed."""

    def found(self, context):
        """What the book has; nothing counts as missing here."""
        if context not in self.book:
            raise Unknown(context)
        return self.book[context]


class Ladder:
    """For each number of books, one after the other, what is reckoned of a context by them.

    The first book is reckoned by the empty one, each other one by the one ahead of it.
    """

    def __init__(self, plan, rest, limit):
        self.plan = plan
        self.rest = rest
        self.limit = limit
        self.books = [{}]
        self.asks = [{}]
        self.tries = {}
        self.reached = 0

    def try_of(self, context, level):
        """The reckoner of a context at a level; it keeps what it has reckoned so far."""
        if (level, context) not in self.tries:
            if level == 1:
                self.tries[(level, context)] = Reckoner(self.plan, context, self.books[0], self.rest)
            else:
                self.tries[(level, context)] = Step(self.plan, context, self.books[level - 1], self.rest)
        return self.tries[(level, context)]

    def attempt(self, context, level):
        """Reckons a context at a level; returns a context that has to be reckoned below it first, or None."""
        reckoner = self.try_of(context, level)
        try:
            found = reckoner.whole()
        except Unknown as why:
            return why.context
        del self.tries[(level, context)]
        self.books[level][context] = found
        self.asks[level][context] = list(reckoner.asked)
        self.reached += 1
        if self.reached > REACHED_FOR_EACH * self.limit:
            raise TooMany(self.limit)
        return None

    def reach(self, context, level):
        """The map of a context at a level; what is needed below is reckoned first."""
        while len(self.books) <= level:
            self.books.append({})
            self.asks.append({})
        ahead = [(context, level)]
        while len(ahead) > 0:
            one, height = ahead[-1]
            below = None
            if one not in self.books[height]:
                below = self.attempt(one, height)
            if below is None:
                ahead.pop()
            else:
                ahead.append((below, height - 1))
        return self.books[level][context]

    def asked_by(self, book, level):
        """The book below a level, with those contexts alone that are needed there by these ones."""
        missing = self.plan.flat(self.rest)
        wanted = sorted(set([other for context in book for other in self.asks[level][context]]))
        found = {context: self.books[level - 1].get(context, missing) for context in wanted}
        return {context: found[context] for context in found if found[context] != missing}

    def books_to(self, top, level, is_short):
        """The books up to a level of which this is the last one; short ones have few claims."""
        found = [top]
        for height in range(level, 1, -1):
            book = self.asked_by(found[-1], height)
            if is_short:
                book = Trim(self.plan, self.rest, book, found[-1]).trimmed()
            found.append(book)
        return tuple(found[::-1])


def fewest_levels(has_come):
    """The least number from 1 on for which this is true; it stays true from there on, and there is one.

    Few numbers above it are tried, and few at all: each one can take long.
    """
    below = 0
    level = 1
    while not has_come(level):
        below = level
        level = level + 1 + level // 2
    while level - below > 1:
        middle = (below + level) // 2
        if has_come(middle):
            level = middle
        else:
            below = middle
    return level


def count_in(books):
    """The number of the contexts of books, together."""
    return sum([len(book) for book in books])


def lone_claim(plan, mode, rest):
    """The book that claims of the beginning just what is asked about a mode, and else nothing."""
    claims = list(plan.flat(rest))
    bit = 1 << mode
    claims[plan.good] = bit if rest == 0 else rest - bit
    return {plan.first(): tuple(claims)}


def ladder_books(plan, mode, rest, limit):
    """The fewest books of which the last one has the mode for the beginning, or has it not if all modes are missing.

    There have to be such books.
    """
    ladder = Ladder(plan, rest, limit)
    first = plan.first()
    wanted = rest == 0

    def has_come(many):
        """Whether so many books are enough."""
        return (ladder.reach(first, many)[plan.good] >> mode & 1 == 1) == wanted

    level = fewest_levels(has_come)
    top = {first: ladder.books[level][first]}
    books = ladder.books_to(top, level, False)
    if count_in(books) > limit:
        books = ladder.books_to(lone_claim(plan, mode, rest), level, True)
    if count_in(books) > limit:
        raise TooMany(limit)
    return books
