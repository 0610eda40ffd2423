"""What the document says of reckoning, told once more, and goals and contexts by chance numbers."""

from handedworld.base.programs import Program
from handedworld.errors import InvalidGoal, InvalidNumber, InvalidProgram
from handedworld.maps.spaces import Space
from handedworld.reckon.terms import beginning, needed, reckoned
from samples import GIVE, is_int, refused, wrong_values


def members(number):
    return frozenset(mode for mode in range(3) if number & 2**mode)


def number_of(modes):
    return sum(2**mode for mode in set(modes))


# -- [0.11] told once more: mode by mode, with functions as what blocks and answers mean --


def free_signals(one, name, seen=()):
    """The free signals of a procedure, by looking through all calls."""

    def free(term, answered, seen):
        if term[0] == "raise":
            return set() if term[1] in answered else {term[1]}
        if term[0] == "answer":
            inner = answered | {pair[0] for pair in term[1]}
            return set().union(*(free(pair[1], answered, seen) for pair in term[1]), free(term[2], inner, seen))
        found = set()
        parts = term[2:] if term[0] in ("call", "scope") else term[1:] if term[0] in ("seq", "or", "and", "case") else ()
        for part in parts:
            found |= free(part, answered, seen)
        if term[0] == "call" and (term[1], frozenset(answered)) not in seen:
            seen.add((term[1], frozenset(answered)))
            found |= free(one[term[1]].body, answered, seen)
        return found

    return tuple(sorted(free(one[name].body, set(), {(name, frozenset())})))


class Teller:
    """Reckons without keeping anything."""

    def __init__(self, one, context, goal, book, rest):
        self.one, self.goal, self.book, self.rest = one, goal, book, rest
        self.numbers = range(2**one.modes)
        self.asked = set()
        procedure = one[context[0]]
        self.body = procedure.body
        self.blocks = dict(zip(procedure.parameters, context[1]))
        self.answers = {s: (lambda q, m=m: m[q]) for s, m in zip(free_signals(one, context[0]), context[2])}

    def table(self, term, exits, answers):
        return tuple(self.good(term, q, exits, answers) for q in self.numbers)

    def good(self, term, p, exits, answers):
        word, args = term[0], term[1:]
        if word == "do":
            done = [m for m, after in enumerate(args[1]) if after is not None]
            if self.goal == ("deed", args[0]):
                return number_of(done)
            return number_of(m for m in done if args[1][m] in members(p))
        if word == "seq":
            return p if not args else self.good(args[0], self.good(("seq",) + args[1:], p, exits, answers), exits, answers)
        if word in ("or", "and"):
            sets = [members(self.good(part, p, exits, answers)) for part in args]
            return number_of(frozenset.union(*sets) if word == "or" else frozenset.intersection(*sets))
        if word == "case":
            return number_of(m for m, part in enumerate(args) if m in members(self.good(part, p, exits, answers)))
        if word == "run":
            return self.blocks[args[0]][p]
        if word == "raise":
            return answers[args[0]](p)
        if word == "exit":
            return exits[args[0]]
        if word == "scope":
            return self.good(args[1], p, {**exits, args[0]: p}, answers)
        if word == "answer":
            inner = dict(answers)
            for signal, part in args[0]:
                inner[signal] = lambda q, table=self.table(part, exits, answers): table[q]
            return self.good(args[1], p, exits, inner)
        meanings = tuple(self.table(part, exits, answers) for part in args[1:])
        around = tuple(tuple(answers[s](q) for q in self.numbers) for s in free_signals(self.one, args[0]))
        self.asked.add((args[0], meanings, around))
        return self.book.get((args[0], meanings, around), (self.rest,) * len(self.numbers))[p]

    def tell(self):
        return self.table(self.body, {}, self.answers)


def any_map(modes, dice, monotone=False):
    if monotone:
        return dice.choice(SPACES[modes].maps)
    return tuple(dice.randrange(2**modes) for _ in range(2**modes))


SPACES = {modes: Space(modes) for modes in (1, 2, 3)}


def any_context(one, name, dice, monotone=False):
    meanings = tuple(any_map(one.modes, dice, monotone) for _ in one[name].parameters)
    return (name, meanings, tuple(any_map(one.modes, dice, monotone) for _ in free_signals(one, name)))


def any_goal(one, dice):
    goals = [("end", dice.randrange(2**one.modes)), ("deed", dice.choice(("up", "down", "go", "other")))]
    goals += [("signal", signal) for signal in one.signals]
    return dice.choice(goals)


def closed_book(one, start, goal, greatest=False):
    """The least, or greatest, book from a context on, by reckoning again and again."""
    rest = 2**one.modes - 1 if greatest else 0
    book = {start: (rest,) * 2**one.modes}
    while True:
        after = {context: reckoned(one, context, goal, book, rest=rest) for context in book}
        for context in book:
            for other in needed(one, context, goal, book, rest=rest):
                after.setdefault(other, (rest,) * 2**one.modes)
        if after == book:
            return book
        book = after


def forces(run, goal, forever=False):
    """Whether the program's side comes to the goal from here, by trying all choices."""
    if run.state == "done":
        return True
    if run.state == "far":
        return forever
    if run.state == "waiting":
        found = [forces(run.chosen(index), goal, forever) for index in range(run.options)]
        return any(found) if run.side == "or" else all(found)
    if run.state == "ended":
        return goal[0] == "end" and run.mode in members(goal[1])
    return run.state == "asking" and goal == ("signal", run.signal)


def wrong_goals(one):
    """Values that are no goals of a program of two modes with the one signal "need"."""
    found = [value for value in wrong_values() if value not in (("end", 1), ("deed", "x")) or type(value) is not tuple]
    found += [("end", number) for number in (-1, 4, True, False, None, (1,), "1")] + [("end", True), ("end",), ("end", 1, 1)]
    found += [("deed", word) for word in ("", "Use", "abcdefghi", None, 1, ("use",))] + [("deed",), ["deed", "use"], "deed"]
    found += [("signal", name) for name in ("other", "", None, 0, ("need",), ["need"])] + [("signal",), ("signal", "need", "need")]
    found += [("ends", 1), ("start", 1), (None, 1), (("end",), 1), (["end"], 1), ({}, 1), {"end": 1}, (1, "end"), ("", "need")]
    return [value for value in found if not (type(value) is tuple and len(value) == 2 and value[0] == "end" and type(value[1]) is int and 0 <= value[1] < 2**one.modes)]


# -- papers [0.13], told once more, for values that are books or tuples of books --


def good_of(goal):
    return goal[1] if goal[0] == "end" else 0


def map_is_within(one, other):
    return all(members(number) <= members(larger) for number, larger in zip(one, other))


def shows(kind, one, start, goal, value):
    """Whether a book, or a tuple of books, is a paper of this kind about a mode."""
    first, good, full = beginning(one, goal), good_of(goal), 2**one.modes - 1
    if kind == "closed":
        if first not in value or start in members(value[first][good]):
            return False
        for context in value:
            if not set(needed(one, context, goal, value)) <= set(value):
                return False
            if not map_is_within(reckoned(one, context, goal, value), value[context]):
                return False
        return True
    if kind == "supported":
        if first not in value or start not in members(value[first][good]):
            return False
        return all(map_is_within(value[context], reckoned(one, context, goal, value)) for context in value)
    ahead, rest = {}, full if kind == "fall" else 0
    for book in value:
        for context in book:
            told = reckoned(one, context, goal, ahead, rest=rest)
            if not (map_is_within(told, book[context]) if rest else map_is_within(book[context], told)):
                return False
        ahead = book
    has = first in ahead and start in members(ahead[first][good])
    return has if kind == "climb" else first in ahead and not has


def changed_book(one, book, dice):
    """A book with a context left out or put in, or with another map."""
    other = dict(book)
    way = dice.choice(("out", "in", "less", "more", "any", "turned"))
    contexts = sorted(other)
    if way == "in":
        other[any_context(one, dice.choice(one.names), dice)] = any_map(one.modes, dice)
    elif way == "turned":
        return dict(reversed(list(other.items())))
    elif contexts:
        context = dice.choice(contexts)
        place = dice.randrange(2**one.modes)
        row = list(other[context])
        if way == "out":
            del other[context]
        elif way == "any":
            other[context] = any_map(one.modes, dice)
        else:
            bit = 1 << dice.randrange(one.modes)
            row[place] = row[place] | bit if way == "more" else row[place] & ~bit
            other[context] = tuple(row)
    return other


def changed_paper(one, paper, dice):
    """A book, or a tuple of books, with one thing changed."""
    if isinstance(paper, dict):
        return changed_book(one, paper, dice)
    rows = list(paper)
    way = dice.choice(("out", "double", "turned", "empty", "book", "book", "book", "book"))
    at = dice.randrange(len(rows))
    if way == "out" and len(rows) > 1:
        del rows[at]
    elif way == "double":
        rows.insert(at, rows[at])
    elif way == "turned":
        rows.reverse()
    elif way == "empty":
        rows.insert(dice.choice((0, at)), {})
    else:
        rows[at] = changed_book(one, rows[at], dice)
    return tuple(rows)


def goals_of(one):
    """All goals of a program, with a word that no deed has."""
    goals = [("end", number) for number in range(2**one.modes)]
    goals += [("deed", word) for word in one.words + ("other",)]
    return goals + [("signal", signal) for signal in one.signals]


def from_there_on(one, first, goal, book):
    """The contexts that are needed from a context on, again and again, by a book."""
    seen, ahead = {first}, [first]
    while ahead:
        for other in needed(one, ahead.pop(), goal, book):
            if other not in seen:
                seen.add(other)
                ahead.append(other)
    return seen


def refused_questions(case, call, *more):
    """Whether a call of a program, a mode, a goal and more values refuses each of the first three that is wrong."""
    nothing = (None,) * len(more)
    for value in wrong_values():
        if type(value) is not Program:
            refused(case, InvalidProgram, lambda: call(value, None, None, *nothing))
        if not is_int(value) or not 0 <= value < 2:
            refused(case, InvalidNumber, lambda: call(GIVE, value, None, *nothing), keeps=("value", value))
    for goal in wrong_goals(GIVE):
        refused(case, InvalidGoal, lambda: call(GIVE, 1, goal, *more))


def refused_goals(case, call):
    """The same for a call of a program and a goal."""
    for value in wrong_values():
        if type(value) is not Program:
            refused(case, InvalidProgram, lambda: call(value, None))
    for goal in wrong_goals(GIVE):
        refused(case, InvalidGoal, lambda: call(GIVE, goal))
