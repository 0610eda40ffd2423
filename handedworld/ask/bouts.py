"""A duel that is under way, step by step: a run in which one side chooses by a paper."""

from handedworld.errors import InvalidOperation
from handedworld.reckon.reckoner import Reckoner

# What is left is a list of triples: the number of a term in its body, the place where it
# stands, and the good set that is claimed behind it. A block and an answer are each a pair
# of a number and the place in which it is written.


class Place:
    """What stands around a term: what is handed to it, and what the paper claims of it."""

    def __init__(self, reckoner, level, blocks, helps):
        self.reckoner = reckoner
        self.level = level
        self.blocks = blocks
        self.helps = helps
        self.exits = {}
        self.heights = {}
        self.around = reckoner.outer

    def inner(self):
        """A place like this one, to be changed."""
        place = Place(self.reckoner, self.level, self.blocks, self.helps)
        place.exits = self.exits
        place.heights = self.heights
        place.around = self.around
        return place

    def in_scope(self, label, good, height):
        """The place within a scope, with the good set and the height of what is left behind it."""
        place = self.inner()
        place.exits = {**self.exits, label: good}
        place.heights = {**self.heights, label: height}
        return place

    def in_answer(self, number):
        """The place of the last term of an answer."""
        term, below = self.reckoner.rows[number]
        helps = {signal: (part, self) for (signal, _), part in zip(term[1], below)}
        place = self.inner()
        place.helps = {**self.helps, **helps}
        place.around = self.reckoner.answers_in(number, self.exits, self.around)
        return place

    def claims(self, number, good):
        """The set of the modes of which the paper says that they come to a good end by this term."""
        return self.reckoner.set_at(number, good, self.exits, self.around)


def take_deed(bout, number, place, good):
    """A deed is done, or the duel is stuck."""
    term = place.reckoner.rows[number][0]
    after = term[2][bout.now]
    if after is None:
        bout.fate = "stuck"
        return
    bout.now = after
    bout.done.append(term[1])
    if bout.plan.sought == ("deed", term[1]):
        bout.fate = "came"


def take_sequence(bout, number, place, good):
    """The terms of a sequence come in its place, each with what is claimed behind it."""
    behind = good
    for part in place.reckoner.rows[number][1][::-1]:
        bout.left.append((part, place, behind))
        behind = place.claims(part, behind)


def take_choice(bout, number, place, good):
    """The term that the paper or the other side chooses comes in the place of a choice."""
    term, below = place.reckoner.rows[number]
    index = bout.own_index(below, place, good) if term[0] == bout.own else bout.told_index(below)
    bout.chosen_so_far.append(index)
    bout.left.append((below[index], place, good))


def take_case(bout, number, place, good):
    """The term of the present mode comes in the place of a case."""
    bout.left.append((place.reckoner.rows[number][1][bout.now], place, good))


def take_run(bout, number, place, good):
    """The block comes in the place of running it, with the claims of where it was handed."""
    part, origin = place.blocks[place.reckoner.rows[number][0][1]]
    bout.left.append((part, origin, good))


def take_call(bout, number, place, good):
    """The body comes in the place of a call, with its blocks and the answers around it."""
    term, below = place.reckoner.rows[number]
    context = place.reckoner.context_at(number, place.exits, place.around)
    level = place.level - bout.drop
    parameters = bout.plan.text[term[1]].parameters
    blocks = {x: (part, place) for x, part in zip(parameters, below)}
    bout.left.append((0, Place(bout.reckoner_of(context, level), level, blocks, place.helps), good))


def take_scope(bout, number, place, good):
    """A scope is opened; what is claimed behind it is claimed behind exits to it."""
    term, below = place.reckoner.rows[number]
    bout.left.append((below[0], place.in_scope(term[1], good, len(bout.left)), good))


def take_exit(bout, number, place, good):
    """All that is left of the scope falls away."""
    del bout.left[place.heights[place.reckoner.rows[number][0][1]]:]


def take_raise(bout, number, place, good):
    """The answering term comes in the place of a raise, or the signal comes out."""
    signal = place.reckoner.rows[number][0][1]
    if signal in place.helps:
        part, origin = place.helps[signal]
        bout.left.append((part, origin, good))
    else:
        bout.fate = "came" if bout.plan.sought == ("signal", signal) else "asking"


def take_answer(bout, number, place, good):
    """The last term comes, and what is raised in it is answered by the other ones."""
    part = place.reckoner.rows[number][1][-1]
    bout.left.append((part, place.in_answer(number), good))


STEPS = {
    "do": take_deed,
    "seq": take_sequence,
    "or": take_choice,
    "and": take_choice,
    "case": take_case,
    "run": take_run,
    "call": take_call,
    "scope": take_scope,
    "exit": take_exit,
    "raise": take_raise,
    "answer": take_answer,
}


class Bout:
    """What is left of a duel, and what was done so far."""

    def __init__(self, plan, kind, books, start, told):
        self.plan = plan
        self.books = books
        self.own = "or" if kind in ("climb", "supported") else "and"
        self.drop = 1 if kind in ("climb", "fall") else 0
        self.rest = plan.size - 1 if kind == "fall" else 0
        self.reckoners = {}
        self.told = told
        self.used = 0
        self.now = start
        self.done = []
        self.chosen_so_far = []
        self.taken = 0
        self.fate = None
        level = len(books) - 1 - self.drop
        self.left = [(0, Place(self.reckoner_of(plan.first(), level), level, {}, {}), plan.good)]

    def reckoner_of(self, context, level):
        """The reckoner of a context by the book at a level; the empty book is below the first one."""
        if (level, context) not in self.reckoners:
            book = self.books[level] if level >= 0 else {}
            self.reckoners[(level, context)] = Reckoner(self.plan, context, book, self.rest)
        return self.reckoners[(level, context)]

    def own_index(self, below, place, good):
        """The index of the first term by which what the paper claims stays true."""
        wanted = self.own == "or"
        fits = [(place.claims(part, good) >> self.now & 1 == 1) == wanted for part in below]
        return fits.index(True)

    def told_index(self, below):
        """The next index that was told for the other side."""
        index = self.told[self.used]
        if index >= len(below):
            raise InvalidOperation("an answer is not the index of a term")
        self.used += 1
        return index

    def term_ahead(self):
        """The term that is taken next."""
        number, place, _ = self.left[-1]
        return place.reckoner.rows[number][0]

    def end_fate(self):
        """How a duel is called that has ended."""
        came = self.plan.sought[0] == "end" and self.plan.good >> self.now & 1 == 1
        return "came" if came else "ended"

    def settle(self, limit):
        """The duel stops here if there is a reason; the first one counts."""
        if self.fate is not None:
            return
        if len(self.left) == 0:
            self.fate = self.end_fate()
        elif self.taken == limit:
            self.fate = "far"
        elif self.term_ahead()[0] in ("or", "and") and self.is_asked():
            self.fate = "waiting"

    def is_asked(self):
        """Whether the other side has the choice ahead, and none is told for it."""
        return self.term_ahead()[0] != self.own and self.used == len(self.told)

    def go(self, limit):
        """The duel goes on until it stops; it uses all that is told, or is refused."""
        self.settle(limit)
        while self.fate is None:
            number, place, good = self.left.pop()
            self.taken += 1
            take = STEPS[place.reckoner.rows[number][0][0]]
            take(self, number, place, good)
            self.settle(limit)
        if self.used < len(self.told):
            raise InvalidOperation("answers are left where the duel stops")
