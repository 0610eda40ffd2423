"""Stage 11: programs without "and", looked at forward."""

import time
import unittest

from handedworld.ask.goals import kept, reached
from handedworld.base.procedures import Procedure
from handedworld.base.programs import Program
from handedworld.errors import InvalidNumber, InvalidOperation, InvalidProgram, TooMany
from handedworld.events.forward import ends_forward, events_forward, forward_book, lasting_sets, lasts_forward
from handedworld.runs.runs import each_run
from samples import CHANCE, DROP, FIND, FLIP, GIVE, Maker, RUN_X, SWAP, TICK, TURN, crowd, is_int, refused, swarm, wrong_values
from tellings import free_signals, members

MAIN = ("main", (), ())
NOTHING = ("seq",)
UP = ("do", "up", (1, 1))
DOWN = ("do", "down", (0, 0))
BAR = ("do", "bar", (None, None))
HALF = ("do", "half", (None, 0))
STAY = ((0, 0), (1, 1))
ALL = ((0, 0), (0, 1), (1, 0), (1, 1))


def program(body, *rows, signals=(), modes=2):
    return Program(modes, signals, Procedure("main", (), body), *rows)


# -- [11.2] and [11.3] told once more, with sets of pairs --


class Forward:
    """Looks at a body with sets of pairs, and keeps nothing."""

    def __init__(self, one, context, book, lasting=None):
        self.one, self.book, self.lasting = one, book, lasting or {}
        self.asked = set()
        name, relations, answers = context
        procedure = one[name]
        self.body, self.modes = procedure.body, range(one.modes)
        self.blocks = {x: (place, relations[place]) for place, x in enumerate(procedure.parameters)}
        self.outer = {}
        for signal, relation in zip(free_signals(one, name), answers):
            self.outer[signal] = (set(relation), {(m, ("raise", signal, m)) for m in self.modes}, set())

    def tell(self):
        return self.look(self.body, self.outer)

    def look(self, term, answers):
        """The pairs, the events, and the modes from which it lasts."""
        word, args = term[0], term[1:]
        if word == "do":
            pairs = {(m, e) for m, e in enumerate(args[1]) if e is not None}
            return pairs, {(m, ("stuck", m) if e is None else ("deed", args[0])) for m, e in enumerate(args[1])}, set()
        if word == "seq":
            pairs, events, lasts = {(m, m) for m in self.modes}, set(), set()
            for part in args:
                more = self.look(part, answers)
                events = events | {(m, what) for m, e in pairs for begin, what in more[1] if begin == e}
                lasts = lasts | {m for m, e in pairs if e in more[2]}
                pairs = {(m, end) for m, e in pairs for begin, end in more[0] if begin == e}
            return pairs, events, lasts
        if word in ("or", "case"):
            rows = [self.look(part, answers) for part in args]
            if word == "case":
                rows = [[{x for x in row[0] if x[0] == m}, {x for x in row[1] if x[0] == m}, row[2] & {m}] for m, row in enumerate(rows)]
            return tuple(set().union(*(row[at] for row in rows)) for at in range(3))
        if word == "run":
            place, relation = self.blocks[args[0]]
            return set(relation), {(m, ("block", place, m)) for m in self.modes}, set()
        if word == "raise":
            return answers[args[0]]
        if word == "exit":
            return set(), {(m, ("exit", args[0], m)) for m in self.modes}, set()
        if word == "scope":
            pairs, events, lasts = self.look(args[1], answers)
            left = {(m, what) for m, what in events if what[:2] == ("exit", args[0])}
            return pairs | {(m, what[2]) for m, what in left}, events - left, lasts
        if word == "answer":
            return self.look(args[1], {**answers, **{signal: self.look(part, answers) for signal, part in args[0]}})
        return self.call(args[0], [self.look(part, answers) for part in args[1:]], answers)

    def call(self, name, parts, answers):
        free = free_signals(self.one, name)
        context = (name, tuple(tuple(sorted(part[0])) for part in parts), tuple(tuple(sorted(answers[s][0])) for s in free))
        self.asked.add(context)
        pairs, told = self.book.get(context, ((), ()))
        events, lasts = set(), set(self.lasting.get(context, ()))
        for m, what in told:
            if what[0] in ("deed", "stuck"):
                events.add((m, what))
                continue
            inner = parts[what[1]] if what[0] == "block" else answers[what[1]]
            events |= {(m, other) for k, other in inner[1] if k == what[2]}
            if what[2] in inner[2]:
                lasts.add(m)
        return set(pairs), events, lasts


def told_book(one):
    """The least forward book and the lasting sets, by looking at all again and again."""
    first = ("main", (), ((),) * len(free_signals(one, "main")))
    book = {first: ((), ())}
    while True:
        after = {}
        for context in book:
            look = Forward(one, context, book)
            pairs, events, _ = look.tell()
            after[context] = (tuple(sorted(pairs)), tuple(sorted(events)))
            for other in look.asked:
                after.setdefault(other, book.get(other, ((), ())))
        if after == book:
            break
        book = after
    seen, ahead = {first}, [first]
    while ahead:
        look = Forward(one, ahead.pop(), book)
        look.tell()
        ahead += sorted(look.asked - seen)
        seen |= look.asked
    lasting = {context: set(range(one.modes)) for context in seen}
    while True:
        after = {context: Forward(one, context, book, lasting).tell()[2] for context in seen}
        if after == lasting:
            return {context: book[context] for context in seen}, {c: sum(2**m for m in row) for c, row in lasting.items()}
        lasting = after


class Rows(unittest.TestCase):
    """Each row of [11.2] and [11.3], of main and of other procedures."""

    def shows(self, body, pairs, events, *rows, signals=(), modes=2, context=MAIN):
        one = program(body, *rows, signals=signals, modes=modes)
        self.assertEqual(forward_book(one)[context], (pairs, events))
        if context[0] == "main":
            for start in range(modes):
                self.assertEqual(ends_forward(one, start), tuple(e for m, e in pairs if m == start))
                self.assertEqual(events_forward(one, start), tuple(what for m, what in events if m == start))

    def test_deeds(self):
        self.shows(UP, ((0, 1), (1, 1)), ((0, ("deed", "up")), (1, ("deed", "up"))))
        self.shows(HALF, ((1, 0),), ((0, ("stuck", 0)), (1, ("deed", "half"))))
        self.shows(("do", "go", (2, None, 0)), ((0, 2), (2, 0)), ((0, ("deed", "go")), (1, ("stuck", 1)), (2, ("deed", "go"))), modes=3)

    def test_sequences(self):
        self.shows(NOTHING, STAY, ())
        self.shows(("seq", HALF, UP), ((1, 1),), ((0, ("stuck", 0)), (1, ("deed", "half")), (1, ("deed", "up"))))
        self.shows(("seq", BAR, UP), (), ((0, ("stuck", 0)), (1, ("stuck", 1))))
        self.shows(("seq", DOWN, HALF), (), ((0, ("deed", "down")), (0, ("stuck", 0)), (1, ("deed", "down")), (1, ("stuck", 0))))

    def test_choices_and_cases(self):
        self.shows(("or", UP, NOTHING), ((0, 0), (0, 1), (1, 1)), ((0, ("deed", "up")), (1, ("deed", "up"))))
        self.shows(("or", BAR, BAR), (), ((0, ("stuck", 0)), (1, ("stuck", 1))))
        self.shows(("case", UP, DOWN), ((0, 1), (1, 0)), ((0, ("deed", "up")), (1, ("deed", "down"))))

    def test_running(self):
        once = Procedure("once", ("x", "y"), ("seq", RUN_X, ("run", "y")))
        body = ("call", "once", UP, FLIP)
        context = ("once", (((0, 1), (1, 1)), ((0, 1), (1, 0))), ())
        events = ((0, ("block", 0, 0)), (0, ("block", 1, 1)), (1, ("block", 0, 1)), (1, ("block", 1, 1)))
        self.shows(body, ((0, 0), (1, 0)), events, once, context=context)
        both = tuple((m, ("deed", word)) for m in (0, 1) for word in ("flip", "up"))
        self.shows(body, ((0, 0), (1, 0)), both, once)

    def test_blocks_that_are_handed_on(self):
        once = Procedure("once", ("x",), RUN_X)
        on = Procedure("on", ("x",), ("seq", UP, ("call", "once", ("seq", DOWN, RUN_X))))
        context = ("on", (((0, 1), (1, 0)),), ())
        events = tuple((m, what) for m in (0, 1) for what in (("block", 0, 0), ("deed", "down"), ("deed", "up")))
        self.shows(("call", "on", FLIP), ((0, 1), (1, 1)), events, once, on, context=context)

    def test_scopes_and_exits(self):
        leave = ("scope", "out", ("seq", UP, ("exit", "out"), BAR))
        self.shows(leave, ((0, 1), (1, 1)), ((0, ("deed", "up")), (1, ("deed", "up"))))
        inner = ("scope", "a", ("seq", ("scope", "b", ("or", ("exit", "a"), ("exit", "b"))), FLIP))
        self.shows(inner, ALL, ((0, ("deed", "flip")), (1, ("deed", "flip"))))
        once = Procedure("once", ("x",), ("seq", RUN_X, BAR))
        handed = ("scope", "out", ("call", "once", ("case", ("exit", "out"), NOTHING)))
        self.shows(handed, ((0, 0),), ((1, ("stuck", 1)),), once)

    def test_answers_and_raises(self):
        self.shows(("raise", "s"), (), ((0, ("raise", "s", 0)), (1, ("raise", "s", 1))), signals=("s",), context=("main", (), ((),)))
        self.shows(("answer", (("s", UP),), ("raise", "s")), ((0, 1), (1, 1)), ((0, ("deed", "up")), (1, ("deed", "up"))), signals=("s",))
        self.shows(("answer", (("s", UP),), NOTHING), STAY, (), signals=("s",))
        nested = ("answer", (("s", UP),), ("answer", (("s", ("seq", ("raise", "s"), FLIP)),), ("raise", "s")))
        self.shows(nested, ((0, 0), (1, 0)), tuple((m, ("deed", word)) for m in (0, 1) for word in ("flip", "up")), signals=("s",))
        ask = Procedure("ask", (), ("seq", UP, ("raise", "s"), DOWN))
        body = ("answer", (("s", HALF),), ("call", "ask"))
        relation = ((1, 0),)
        events = tuple((m, what) for m in (0, 1) for what in (("deed", "down"), ("deed", "up"), ("raise", "s", 1)))
        self.shows(body, ((0, 0), (1, 0)), events, ask, signals=("s",), context=("ask", (), (relation,)))
        events = tuple((m, ("deed", word)) for m in (0, 1) for word in ("down", "half", "up"))
        self.shows(body, ((0, 0), (1, 0)), events, ask, signals=("s",))

    def test_raises_in_blocks(self):
        """A raise in a block is answered where the block is written."""
        hand = Procedure("hand", ("x",), ("answer", (("s", BAR),), RUN_X))
        body = ("answer", (("s", UP),), ("call", "hand", ("raise", "s")))
        self.shows(body, ((0, 1), (1, 1)), ((0, ("deed", "up")), (1, ("deed", "up"))), hand, signals=("s",))

    def test_all_parts_are_looked_at(self):
        deep = Procedure("deep", (), UP)
        for body, signals in (
            (("answer", (("s", ("call", "deep")),), NOTHING), ("s",)), (("seq", BAR, ("call", "deep")), ()),
            (("case", NOTHING, ("seq", ("call", "deep"), BAR)), ()), (("call", "quiet", ("call", "deep")), ()),
        ):
            quiet = Procedure("quiet", ("x",), NOTHING)
            book = forward_book(program(body, deep, quiet, signals=signals))
            self.assertEqual(book[("deep", (), ())][0], ((0, 1), (1, 1)))
            self.assertEqual(list(book), sorted(book))

    def test_lasting(self):
        loop = Procedure("loop", (), ("call", "loop"))
        for body, number in (
            (("call", "loop"), 3), (("seq", HALF, ("call", "loop")), 2), (("seq", ("call", "loop"), BAR), 3), (("seq", BAR, ("call", "loop")), 0),
            (("or", NOTHING, ("call", "loop")), 3), (("case", ("call", "loop"), NOTHING), 1), (("scope", "a", ("call", "loop")), 3),
            (("scope", "a", ("seq", ("exit", "a"), ("call", "loop"))), 0), (("answer", (("s", ("call", "loop")),), ("raise", "s")), 3),
            (("answer", (("s", ("call", "loop")),), NOTHING), 0), (("raise", "s"), 0), (("call", "once", ("call", "loop")), 3),
            (("call", "once", HALF), 0), (("call", "once", ("seq", HALF, ("call", "loop"))), 2), (("call", "quiet", ("call", "loop")), 0),
            (("answer", (("s", ("case", ("call", "loop"), NOTHING)),), ("call", "ask")), 2),
        ):
            one = program(
                body, loop, Procedure("once", ("x",), RUN_X), Procedure("quiet", ("x",), NOTHING),
                Procedure("ask", (), ("seq", FLIP, ("raise", "s"))), signals=("s",),
            )
            lasting = lasting_sets(one)
            self.assertEqual(lasting[MAIN if len(free_signals(one, "main")) == 0 else ("main", (), ((),))], number, body)
            self.assertEqual([lasts_forward(one, start) for start in (0, 1)], [bool(number & 1), bool(number & 2)])
            self.assertEqual(list(lasting), list(forward_book(one)))
            for name, relations, answers in lasting:
                if name in ("once", "ask"):
                    self.assertEqual(lasting[(name, relations, answers)], 0)

    def test_staying_in_a_block_is_not_its_own(self):
        """each never ends, but what lasts there is told of it alone if its block can end."""
        one = FIND.with_procedure(Procedure("main", (), ("call", "each", ("or", NOTHING, ("call", "main")))))
        self.assertEqual(lasting_sets(one)[("each", (STAY,), ())], 3)
        self.assertEqual(lasting_sets(FIND)[("each", ((),), ())], 0)
        self.assertEqual(lasting_sets(one)[MAIN], 3)


class Against(unittest.TestCase):
    def test_told_once_more(self):
        maker = Maker(131)
        largest = 0
        for turn in range(170):
            one = maker.program(depth=4, loops=turn % 4 > 0, modes=(1, 2, 2, 3)[turn % 4], bans=("and",))
            book, lasting = told_book(one)
            self.assertEqual(forward_book(one), book)
            self.assertEqual(list(forward_book(one)), sorted(book))
            self.assertEqual(lasting_sets(one), lasting)
            largest = max(largest, len(book))
        self.assertGreater(largest, 10)

    def test_against_runs(self):
        maker = Maker(132)
        seen = {}
        for turn in range(250):
            one = maker.program(depth=(3, 4, 5)[turn % 3], loops=turn % 2 == 0, bans=("and",))
            for start in range(one.modes):
                ends, events, far, waits = set(), set(), False, False
                for run in each_run(one, start, 5):
                    events |= {("deed", word) for word in run.words}
                    if run.state == "ended":
                        ends.add(run.mode)
                    if run.state == "stuck":
                        events.add(("stuck", run.mode))
                    if run.state == "asking":
                        events.add(("raise", run.signal, run.mode))
                    far, waits = far or run.state == "far", waits or run.state == "waiting"
                told = ends_forward(one, start), events_forward(one, start), lasts_forward(one, start)
                self.assertEqual((told[0], told[1]), (tuple(sorted(told[0])), tuple(sorted(told[1]))))
                self.assertTrue(ends <= set(told[0]) and events <= set(told[1]) and far <= told[2])
                if not waits:
                    self.assertEqual((ends, events, far), (set(told[0]), set(told[1]), told[2]))
                for key in ((far, waits), ("last", told[2]), ("what", *{what[0] for what in told[1]})):
                    seen[key] = seen.get(key, 0) + 1
        self.assertGreater(min(seen[(False, False)], seen[(True, False)], seen[("last", True)]), 50)

    def test_what_is_found_backward(self):
        """The same ends, deeds and signals are reached, and what lasts keeps to an end that is none."""
        maker = Maker(133)
        for turn in range(150):
            one = maker.program(depth=4, loops=turn % 5 > 0, bans=("and",))
            lasts = kept(one, ("end", 0))
            for start in range(one.modes):
                ends, events = ends_forward(one, start), events_forward(one, start)
                self.assertIs(lasts_forward(one, start), start in members(lasts))
                for goal, is_so in (
                    [(("end", 1 << end), end in ends) for end in range(one.modes)]
                    + [(("deed", word), ("deed", word) in events) for word in one.words + ("other",)]
                    + [(("signal", s), any(what[:2] == ("raise", s) for what in events)) for s in one.signals]
                ):
                    self.assertIs(start in members(reached(one, goal)), is_so)


class Arguments(unittest.TestCase):
    def test_wrong_arguments(self):
        for call in (forward_book, lasting_sets):
            for value in wrong_values():
                if type(value) is not Program:
                    refused(self, InvalidProgram, lambda: call(value))
            refused(self, InvalidOperation, lambda: call(CHANCE))
            refused(self, InvalidOperation, lambda: call(swarm("and")))
            refused(self, TooMany, lambda: call(swarm("or")), keeps=("limit", 800))
        for call in (ends_forward, events_forward, lasts_forward):
            for value in wrong_values():
                if type(value) is not Program:
                    refused(self, InvalidProgram, lambda: call(value, None))
                if not is_int(value) or not 0 <= value < 2:
                    refused(self, InvalidNumber, lambda: call(CHANCE, value), keeps=("value", value))
            refused(self, InvalidNumber, lambda: call(swarm("or"), 3), keeps=("value", 3))
            refused(self, InvalidOperation, lambda: call(CHANCE, 1))
            refused(self, InvalidOperation, lambda: call(swarm("and"), 2))
            refused(self, TooMany, lambda: call(swarm("or"), 2), keeps=("limit", 800))

    def test_an_and_in_any_body(self):
        spare = Procedure("spare", (), ("and", NOTHING))
        one = program(NOTHING)
        self.assertEqual(ends_forward(one, 1), (1,))
        refused(self, InvalidOperation, lambda: ends_forward(one.with_procedure(spare), 1))
        refused(self, InvalidOperation, lambda: forward_book(one.with_procedure(spare)))

    def test_the_limit(self):
        begin = time.monotonic()
        one = crowd("or")
        self.assertEqual((len(forward_book(one)), len(lasting_sets(one))), (800, 800))
        self.assertEqual(ends_forward(one, 1), (0, 1, 2))
        self.assertIs(lasts_forward(one, 2), True)
        for last in (2, 3):
            refused(self, TooMany, lambda: forward_book(crowd("or", last=last)), keeps=("limit", 800))
        self.assertLess(time.monotonic() - begin, 60)

    def test_what_is_returned_is_new(self):
        book = forward_book(FIND)
        book.clear()
        self.assertEqual(len(forward_book(FIND)), 2)
        self.assertEqual(sorted(forward_book(FIND)), list(lasting_sets(FIND)))

    def test_blocks_that_are_found_in_rounds(self):
        """What lesser relations need is not told."""
        one = program(
            ("call", "q"), Procedure("p", ("x",), RUN_X),
            Procedure("q", (), ("or", TURN, ("seq", SWAP, ("call", "p", ("call", "q"))), DROP)), modes=3,
        )
        book = forward_book(one)
        self.assertEqual(sorted(name for name, _, _ in book), ["main", "p", "q"])
        self.assertEqual(book, told_book(one)[0])

    def test_examples(self):
        self.assertEqual(
            [ends_forward(FIND, 0), events_forward(FIND, 0), lasts_forward(FIND, 0), lasts_forward(TICK, 0),
             events_forward(GIVE, 1), lasting_sets(TICK)],
            [(1,), (("deed", "look"),), False, True, (("deed", "give"), ("deed", "use")), {("main", (), ()): 1}],
        )
        self.assertEqual(forward_book(FIND)[("each", ((),), ())], ((), ((0, ("block", 0, 0)), (1, ("block", 0, 1)))))


if __name__ == "__main__":
    unittest.main()
