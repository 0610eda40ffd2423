"""[0.8], [0.10] to [0.15]: contexts, and what is reckoned and needed in them."""

import copy
import random
import time
import unittest

from handedworld.base.procedures import Procedure
from handedworld.base.programs import Program
from handedworld.errors import InvalidGoal, InvalidMeaning, InvalidNumber, InvalidOperation, InvalidProgram
from handedworld.reckon.terms import beginning, is_context, needed, reckoned
from handedworld.runs.runs import Run
from samples import CHANCE, FIND, GIVE, Maker, TICK, is_int, refused, wrong_values
from tellings import Teller, any_context, any_goal, any_map, closed_book, forces, free_signals, members, wrong_goals

GIVEN = ("work", (), ((0, 0, 3, 3),))
NOTHING = ("seq",)
UP = ("do", "up", (1, 1))
DOWN = ("do", "down", (0, 0))
FLIP = ("do", "flip", (1, 0))
HALF = ("do", "half", (None, 0))
BAR = ("do", "bar", (None, None))
MAIN = ("main", (), ())


def program(body, *rows, signals=(), modes=2):
    return Program(modes, signals, Procedure("main", (), body), *rows)


class Contexts(unittest.TestCase):
    TWO = Program(
        2, ("a", "b"),
        Procedure("main", (), ("call", "two", ("raise", "b"), NOTHING)),
        Procedure("two", ("x", "y"), ("seq", ("raise", "a"), ("answer", (("b", ("run", "x")),), ("raise", "b")))),
        Procedure("plain", ("x",), ("answer", (("a", NOTHING), ("b", NOTHING)), ("call", "two", ("raise", "a"), NOTHING))),
    )

    def test_right_ones(self):
        m, wild = (0, 1, 2, 3), (3, 0, 1, 0)
        self.assertIs(is_context(self.TWO, ("main", (), (m, wild))), True)
        self.assertIs(is_context(self.TWO, ("two", (m, wild), (m,))), True)
        self.assertIs(is_context(self.TWO, ("plain", (wild,), ())), True)
        self.assertIs(is_context(GIVE, GIVEN), True)
        self.assertIs(is_context(GIVE, MAIN), True)

    def test_wrong_ones(self):
        m = (0, 1, 2, 3)
        for value in (
            ("two", (m,), (m,)), ("two", (m, m, m), (m,)), ("two", (m, m), ()), ("two", (m, m), (m, m)), ("three", (), ()),
            ("two", (m, m)), ("two", (m, m), (m,), ()), ["two", (m, m), (m,)], ("two", [m, m], (m,)), ("two", (m, m), [m]),
            ("two", (list(m), m), (m,)), ("two", (m, m), (list(m),)), ("two", (m, (0, 1, 2)), (m,)), ("two", (m, (0, 1, 2, 4)), (m,)),
            ("two", (m, (0, True, 2, 3)), (m,)), ("two", (m, m), ((0, 1, 2, None),)), ("two", (m, m), (m[:3],)), (None, (m, m), (m,)),
            (("two",), (m, m), (m,)), ("two", m, (m,)), ("two", (m, m), m), ("two", (m, m), None), ("main", (), ()), ("main", (m,), (m, m)),
        ):
            self.assertIs(is_context(self.TWO, value), False)
            refused(self, InvalidOperation, lambda: reckoned(self.TWO, value, ("end", 0), {}))
            refused(self, InvalidOperation, lambda: needed(self.TWO, value, ("end", 0), {}))
        for value in wrong_values():
            self.assertIs(is_context(self.TWO, value), False)
            self.assertIs(is_context(GIVE, value), value == MAIN and type(value) is tuple)

    def test_wrong_programs(self):
        for value in wrong_values():
            if type(value) is not Program:
                refused(self, InvalidProgram, lambda: is_context(value, MAIN))

    def test_free_signals(self):
        maker = Maker(21)
        dice = random.Random(22)
        several = set()
        for turn in range(150):
            one = maker.program(depth=4, loops=turn % 2 == 0, signals=("ask", "hey"))
            for name in one.names:
                free = free_signals(one, name)
                several.add(free)
                context = any_context(one, name, dice)
                self.assertIs(is_context(one, context), True)
                for many in range(4):
                    other = (name, context[1], (one.modes and (0,) * 2**one.modes,) * many)
                    self.assertIs(is_context(one, other), many == len(free))
        self.assertEqual(several, {(), ("ask",), ("hey",), ("ask", "hey")})

    def test_free_signals_by_calls_in_a_ring(self):
        one = Program(
            1, ("a", "b"), Procedure("main", (), ("answer", (("a", NOTHING),), ("call", "p"))),
            Procedure("p", (), ("answer", (("b", NOTHING),), ("call", "q"))), Procedure("q", (), ("seq", ("call", "p"), ("call", "r"))),
            Procedure("r", (), ("or", ("raise", "b"), ("answer", (("a", ("raise", "a")),), ("call", "q")))),
        )
        for name, many in (("main", 0), ("p", 1), ("q", 2), ("r", 2)):
            self.assertEqual([is_context(one, (name, (), ((0, 0),) * k)) for k in range(4)], [k == many for k in range(4)])


class Beginnings(unittest.TestCase):
    def test_answers(self):
        one = program(("seq", ("raise", "a"), ("raise", "b")), signals=("a", "b"))
        never, always = (0, 0, 0, 0), (3, 3, 3, 3)
        self.assertEqual(beginning(one, ("end", 3)), ("main", (), (never, never)))
        self.assertEqual(beginning(one, ("deed", "a")), ("main", (), (never, never)))
        self.assertEqual(beginning(one, ("signal", "a")), ("main", (), (always, never)))
        self.assertEqual(beginning(one, ("signal", "b")), ("main", (), (never, always)))
        half = program(("answer", (("a", NOTHING),), ("seq", ("raise", "a"), ("raise", "b"))), signals=("a", "b"), modes=2)
        self.assertEqual(beginning(half, ("signal", "a")), ("main", (), (never,)))
        self.assertEqual(beginning(half, ("signal", "b")), ("main", (), (always,)))
        for modes in (1, 2, 3):
            this = program(("raise", "s"), signals=("s",), modes=modes)
            self.assertEqual(beginning(this, ("signal", "s")), ("main", (), ((2**modes - 1,) * 2**modes,)))
            self.assertEqual(beginning(this, ("end", 1)), ("main", (), ((0,) * 2**modes,)))

    def test_it_is_a_context(self):
        maker = Maker(23)
        dice = random.Random(24)
        for _ in range(60):
            one = maker.program(loops=True)
            self.assertIs(is_context(one, beginning(one, any_goal(one, dice))), True)

    def test_wrong_arguments(self):
        for value in wrong_values():
            if type(value) is not Program:
                refused(self, InvalidProgram, lambda: beginning(value, None))
        for goal in wrong_goals(GIVE):
            refused(self, InvalidGoal, lambda: beginning(GIVE, goal))
        for goal in (("end", 0), ("end", 3), ("deed", "use"), ("deed", "nothing"[:8]), ("signal", "need")):
            self.assertEqual(beginning(GIVE, goal), MAIN)


class Rows(unittest.TestCase):
    """Each row of [0.11]."""

    def shows(self, body, expected, *rows, goal=("end", 0), book=None, context=MAIN, signals=(), rest=0, modes=2):
        one = program(body, *rows, signals=signals, modes=modes)
        self.assertEqual(reckoned(one, context, goal, book or {}, rest=rest), expected)

    def test_deeds(self):
        self.shows(UP, (0, 0, 3, 3))
        self.shows(FLIP, (0, 2, 1, 3))
        self.shows(HALF, (0, 2, 0, 2))
        self.shows(BAR, (0, 0, 0, 0))
        self.shows(("do", "go", (1, 2, None)), (0, 0, 1, 1, 2, 2, 3, 3), modes=3)
        self.shows(("do", "go", (0,)), (0, 1), modes=1)

    def test_deeds_of_the_goal(self):
        self.shows(UP, (3, 3, 3, 3), goal=("deed", "up"))
        self.shows(HALF, (2, 2, 2, 2), goal=("deed", "half"))
        self.shows(BAR, (0, 0, 0, 0), goal=("deed", "bar"))
        self.shows(UP, (0, 0, 3, 3), goal=("deed", "down"))
        self.shows(("seq", FLIP, HALF, UP), (1, 1, 1, 1), goal=("deed", "half"))
        self.shows(("and", UP, DOWN), (0, 3, 0, 3), goal=("deed", "up"))

    def test_sequences(self):
        self.shows(NOTHING, (0, 1, 2, 3))
        self.shows(("seq", UP, FLIP), (0, 3, 0, 3))
        self.shows(("seq", FLIP, UP), (0, 0, 3, 3))
        self.shows(("seq", FLIP, HALF), (0, 1, 0, 1))
        self.shows(("seq", NOTHING, ("seq", FLIP, NOTHING)), (0, 2, 1, 3))

    def test_choices_and_cases(self):
        self.shows(("or", UP, DOWN), (0, 3, 3, 3))
        self.shows(("and", UP, DOWN), (0, 0, 0, 3))
        self.shows(("or", HALF, NOTHING), (0, 3, 2, 3))
        self.shows(("and", HALF, NOTHING), (0, 0, 0, 2))
        self.shows(("or", UP), (0, 0, 3, 3))
        self.shows(("and", UP), (0, 0, 3, 3))
        self.shows(("case", UP, DOWN), (0, 2, 1, 3))
        self.shows(("case", BAR, NOTHING), (0, 0, 2, 2))
        bar = ("do", "bar", (None, None, None))
        self.shows(("case", ("do", "a", (2, 2, 2)), NOTHING, bar), (0, 0, 2, 2, 1, 1, 3, 3), modes=3)
        self.shows(("and", NOTHING, FLIP, UP), (0, 0, 0, 3))

    def test_running(self):
        for m in ((0, 1, 2, 3), (3, 0, 1, 2), (1, 1, 1, 1)):
            one = program(NOTHING, Procedure("p", ("x", "y"), ("seq", ("run", "x"), ("run", "y"))))
            other = (2, 2, 0, 3)
            expected = tuple(m[other[p]] for p in range(4))
            self.assertEqual(reckoned(one, ("p", (m, other), ()), ("end", 0), {}), expected)

    def test_scopes_and_exits(self):
        self.shows(("scope", "l", UP), (0, 0, 3, 3))
        self.shows(("scope", "l", ("seq", ("exit", "l"), BAR)), (0, 1, 2, 3))
        self.shows(("seq", ("scope", "l", ("seq", UP, ("exit", "l"), BAR)), FLIP), (0, 3, 0, 3))
        self.shows(("scope", "a", ("seq", ("scope", "b", ("or", ("exit", "a"), ("exit", "b"))), UP)), (0, 1, 3, 3))
        self.shows(("scope", "a", ("seq", ("scope", "b", ("and", ("exit", "a"), ("exit", "b"))), UP)), (0, 0, 2, 3))

    def test_answers_and_raises(self):
        self.shows(("answer", (("s", UP),), ("seq", ("raise", "s"), FLIP)), (0, 3, 0, 3), signals=("s",))
        self.shows(("answer", (("s", UP),), FLIP), (0, 2, 1, 3), signals=("s",))
        inner = ("answer", (("s", ("seq", ("raise", "s"), FLIP)),), ("raise", "s"))
        self.shows(("answer", (("s", UP),), inner), (0, 3, 0, 3), signals=("s",))
        self.shows(("answer", (("s", UP),), ("seq", inner, ("raise", "s"))), (0, 0, 3, 3), signals=("s",))
        beside = ("answer", (("a", ("raise", "b")), ("b", DOWN)), ("raise", "a"))
        self.shows(("answer", (("b", UP),), beside), (0, 0, 3, 3), signals=("a", "b"))

    def test_answers_from_outside(self):
        wild = (3, 0, 1, 2)
        other = (1, 2, 3, 0)
        body = ("seq", ("raise", "a"), ("answer", (("a", ("raise", "b")),), ("raise", "a")))
        one = program(body, signals=("a", "b"))
        expected = tuple(wild[other[p]] for p in range(4))
        self.assertEqual(reckoned(one, ("main", (), (wild, other)), ("end", 0), {}), expected)
        only = program(("or", ("raise", "b"), ("answer", (("a", UP),), ("raise", "a"))), signals=("a", "b"))
        self.assertEqual(reckoned(only, ("main", (), (wild,)), ("end", 0), {}), (3, 0, 3, 3))

    def test_exits_in_answers_and_blocks(self):
        body = ("scope", "l", ("answer", (("s", ("exit", "l")),), ("seq", ("raise", "s"), BAR)))
        self.shows(body, (0, 1, 2, 3), signals=("s",))
        one = program(
            ("scope", "l", ("seq", ("call", "p", ("seq", UP, ("exit", "l"))), BAR)), Procedure("p", ("x",), ("run", "x"))
        )
        never, always = ("p", ((0, 0, 0, 0),), ()), ("p", ((3, 3, 3, 3),), ())
        self.assertEqual(needed(one, MAIN, ("end", 0), {}), (never, always))
        self.assertEqual(reckoned(one, MAIN, ("end", 0), {always: (3, 3, 3, 3)}), (0, 0, 3, 3))

    def test_raises_in_blocks(self):
        ask = Procedure("ask", ("x",), ("answer", (("s", DOWN),), ("seq", ("run", "x"), ("raise", "s"))))
        one = program(("answer", (("s", UP),), ("call", "ask", ("raise", "s"))), ask, signals=("s",))
        context = ("ask", ((0, 0, 3, 3),), ())
        self.assertEqual(needed(one, MAIN, ("end", 0), {}), (context,))
        self.assertEqual(reckoned(one, context, ("end", 0), {}), (0, 3, 0, 3))
        self.assertEqual(reckoned(one, MAIN, ("end", 0), {context: (1, 0, 2, 3)}), (1, 0, 2, 3))

    def test_calls_in_blocks_of_calls(self):
        one = program(
            ("call", "p", ("call", "p", ("call", "q"))), Procedure("p", ("x",), ("run", "x")), Procedure("q", (), FLIP)
        )
        q = ("q", (), ())
        none, some = ("p", ((0, 0, 0, 0),), ()), ("p", ((0, 2, 1, 3),), ())
        self.assertEqual(needed(one, MAIN, ("end", 0), {}), (none, q))
        book = {q: (0, 2, 1, 3)}
        self.assertEqual(needed(one, MAIN, ("end", 0), book), (none, some, q))
        book[some] = (0, 2, 1, 3)
        self.assertEqual(needed(one, MAIN, ("end", 0), book), (some, q))
        self.assertEqual(reckoned(one, MAIN, ("end", 0), book), (0, 2, 1, 3))

    def test_rest(self):
        one = program(("seq", ("call", "p"), FLIP), Procedure("p", (), UP))
        for rest in range(4):
            self.assertEqual(reckoned(one, MAIN, ("end", 0), {}, rest=rest), (rest,) * 4)
            self.assertEqual(reckoned(one, MAIN, ("end", 0), {("p", (), ()): (0, 1, 2, 3)}, rest=rest), (0, 2, 1, 3))
        self.assertEqual(reckoned(one, MAIN, ("end", 0), {}), (0, 0, 0, 0))
        two = program(("call", "p", ("call", "q")), Procedure("p", ("x",), ("run", "x")), Procedure("q", (), UP))
        for rest in range(4):
            self.assertEqual(needed(two, MAIN, ("end", 0), {}, rest=rest), (("p", ((rest,) * 4,), ()), ("q", (), ())))

    def test_a_map_of_the_book_may_be_any_map(self):
        wild = (3, 0, 1, 2)
        one = program(("seq", ("call", "p"), ("call", "p")), Procedure("p", (), UP))
        self.assertEqual(reckoned(one, MAIN, ("end", 0), {("p", (), ()): wild}), tuple(wild[wild[p]] for p in range(4)))


class Needed(unittest.TestCase):
    P = Procedure("p", (), NOTHING)
    CALL = ("call", "p")
    WANT = (("p", (), ()),)

    def needs(self, body, *rows, signals=(), context=MAIN):
        one = program(body, self.P, *rows, signals=signals)
        self.assertEqual(needed(one, context, ("end", 3), {}), self.WANT, body)
        self.assertEqual(needed(one, context, ("end", 0), {}, rest=3), self.WANT, body)

    def test_whatever_comes_of_it(self):
        self.needs(("seq", BAR, self.CALL))
        self.needs(("seq", self.CALL, BAR))
        self.needs(("or", NOTHING, self.CALL))
        self.needs(("and", BAR, self.CALL))
        self.needs(("case", NOTHING, self.CALL))
        self.needs(("scope", "l", ("seq", ("exit", "l"), self.CALL)))
        self.needs(("answer", (("s", self.CALL),), NOTHING), signals=("s",))
        self.needs(("answer", (("s", ("answer", (("t", self.CALL),), BAR)),), NOTHING), signals=("s", "t"))
        self.needs(("seq", ("raise", "s"), self.CALL), signals=("s",), context=("main", (), ((0, 0, 0, 0),)))

    def test_in_blocks_that_may_never_be_run(self):
        quiet = Procedure("quiet", ("x",), NOTHING)
        one = program(("call", "quiet", self.CALL), self.P, quiet)
        self.assertEqual(needed(one, MAIN, ("end", 0), {}), (self.WANT[0], ("quiet", ((0, 0, 0, 0),), ())))

    def test_behind_what_cannot_come_to_an_end(self):
        loop = Procedure("loop", (), ("call", "loop"))
        one = program(("seq", ("call", "loop"), self.CALL), self.P, loop)
        self.assertEqual(needed(one, MAIN, ("end", 0), {}), (("loop", (), ()), ("p", (), ())))
        self.assertEqual(needed(one, ("loop", (), ()), ("end", 0), {}), (("loop", (), ()),))

    def test_nothing_is_needed(self):
        for body in (NOTHING, UP, ("scope", "l", ("exit", "l")), ("or", UP, DOWN)):
            self.assertEqual(needed(program(body, self.P), MAIN, ("end", 0), {}), ())

    def test_what_the_book_has_is_needed_too(self):
        one = program(self.CALL, self.P)
        self.assertEqual(needed(one, MAIN, ("end", 0), {self.WANT[0]: (0, 1, 2, 3)}), self.WANT)

    def test_ascending(self):
        one = program(("scope", "l", ("seq", ("call", "z", ("exit", "l")), ("call", "a", ("exit", "l")))),
                      Procedure("z", ("x",), NOTHING), Procedure("a", ("x",), NOTHING))
        got = needed(one, MAIN, ("end", 0), {})
        self.assertEqual(got, tuple((name, ((p,) * 4,), ()) for name in ("a", "z") for p in range(4)))
        self.assertIs(type(got), tuple)


class Against(unittest.TestCase):
    def test_told_once_more(self):
        maker = Maker(31)
        dice = random.Random(32)
        asked = found = 0
        for turn in range(260):
            one = maker.program(depth=4, loops=True, modes=(1, 2, 2, 3)[turn % 4])
            contexts = [any_context(one, name, dice, turn % 3 == 0) for name in one.names for _ in range(3)]
            book = {context: any_map(one.modes, dice, turn % 3 == 0) for context in dice.sample(contexts, 5)}
            for context in dice.sample(contexts, 4):
                goal = any_goal(one, dice)
                rest = dice.randrange(2**one.modes)
                for other in Teller(one, context, goal, book, rest).asked:
                    if dice.random() < 0.5:
                        book[other] = any_map(one.modes, dice)
                for _ in range(2):
                    teller = Teller(one, context, goal, book, rest)
                    self.assertEqual(reckoned(one, context, goal, book, rest=rest), teller.tell())
                    self.assertEqual(needed(one, context, goal, book, rest=rest), tuple(sorted(teller.asked)))
                    asked += len(teller.asked)
                    for other in sorted(teller.asked):
                        if dice.random() < 0.5:
                            book[other] = any_map(one.modes, dice)
                            found += 1
        self.assertGreater(min(asked, found), 1000)

    def test_against_all_runs(self):
        maker = Maker(41)
        dice = random.Random(42)
        seen = {}
        for turn in range(350):
            one = maker.program(depth=4, loops=False, modes=(1, 2, 2, 3)[turn % 4])
            for _ in range(2):
                goal = any_goal(one, dice)
                start = beginning(one, goal)
                least = closed_book(one, start, goal)
                greatest = closed_book(one, start, goal, greatest=True)
                good = goal[1] if goal[0] == "end" else 0
                for mode in range(one.modes):
                    until = goal[1] if goal[0] == "deed" else None
                    expected = forces(Run(one, mode, until=until), goal)
                    self.assertIs(mode in members(least[start][good]), expected)
                    self.assertIs(mode in members(greatest[start][good]), expected)
                    seen[(goal[0], expected)] = seen.get((goal[0], expected), 0) + 1
        self.assertEqual(len(seen), 6)
        self.assertGreater(min(seen.values()), 15)

    def test_the_opposite_side(self):
        """[0.14]: for sure-footed programs the greatest maps are the opposites of the other side's least ones."""
        maker = Maker(51)
        dice = random.Random(52)
        turned = {"or": "and", "and": "or"}

        def other_side(term):
            if type(term) is not tuple:
                return term
            rest = tuple(other_side(part) for part in term[1:]) if term[:1] != ("do",) else term[1:]
            return tuple([turned.get(term[0], term[0]) if len(term) > 1 and type(term[0]) is str else other_side(term[0])]) + rest if term else ()

        for _ in range(60):
            one = maker.program(depth=4, loops=True, sure=True, signals=(), modes=dice.choice((1, 2)))
            other = Program.of(one.modes, (), tuple(Procedure(p.named, p.parameters, other_side(p.body)) for p in one.procedures))
            for good in range(2**one.modes):
                kept = closed_book(one, MAIN, ("end", good), greatest=True)[MAIN][good]
                others = 2**one.modes - 1 - good
                reached = closed_book(other, MAIN, ("end", others))[MAIN][others]
                self.assertEqual(kept, 2**one.modes - 1 - reached)


class Arguments(unittest.TestCase):
    def test_first_error_that_applies(self):
        for call in (reckoned, needed):
            for value in wrong_values():
                if type(value) is not Program:
                    refused(self, InvalidProgram, lambda: call(value, None, None, None, rest=None))
                if value != MAIN or type(value) is not tuple:
                    refused(self, InvalidOperation, lambda: call(GIVE, value, None, None, rest=None))
                if type(value) is not dict or value != {} and value != {MAIN: (0, 0)}:
                    refused(self, InvalidMeaning, lambda: call(GIVE, MAIN, ("end", 0), value, rest=None))
                if not is_int(value) or not 0 <= value <= 3:
                    refused(self, InvalidNumber, lambda: call(GIVE, MAIN, ("end", 0), {}, rest=value), keeps=("value", value))
            for goal in wrong_goals(GIVE):
                refused(self, InvalidGoal, lambda: call(GIVE, MAIN, goal, None, rest=None))

    def test_books(self):
        m = (0, 1, 2, 3)
        right = {MAIN: m, GIVEN: (3, 0, 1, 2)}
        self.assertEqual(reckoned(GIVE, MAIN, ("end", 0), right), (3, 0, 1, 2))
        for book in (
            {MAIN: [0, 1, 2, 3]}, {MAIN: (0, 1, 2)}, {MAIN: (0, 1, 2, 4)}, {MAIN: (0, True, 2, 3)}, {MAIN: None},
            {("main", ()): m}, {("main", (), (m,)): m}, {("gone", (), ()): m}, {("work", (), ()): m}, {"main": m}, {(): m},
            {("work", (), ((False, 0, 3, 3),)): m}, {("work", (), ((0, 0, 3),)): m}, {**right, None: m}, {**right, 0: m},
            [(MAIN, m)], ((MAIN, m),), None, 0, "book", GIVE, {MAIN: m, GIVEN: {}},
        ):
            refused(self, InvalidMeaning, lambda: reckoned(GIVE, MAIN, ("end", 0), book))
            refused(self, InvalidMeaning, lambda: needed(GIVE, MAIN, ("end", 0), book))

    def test_nothing_is_changed(self):
        maker = Maker(61)
        dice = random.Random(62)
        for _ in range(30):
            one = maker.program(loops=True)
            context = any_context(one, "main", dice)
            book = {any_context(one, name, dice): any_map(one.modes, dice) for name in one.names}
            before = copy.deepcopy(list(book.items()))
            first = reckoned(one, context, ("deed", "go"), book, rest=1), needed(one, context, ("deed", "go"), book, rest=1)
            self.assertEqual(list(book.items()), before)
            again = reckoned(one, context, ("deed", "go"), book, rest=1), needed(one, context, ("deed", "go"), book, rest=1)
            self.assertEqual(first, again)

    def test_blocks_within_blocks_take_no_long_time(self):
        block = ("call", "p", ("call", "p", ("call", "p", ("call", "p", ("exit", "l")))))
        one = program(("scope", "l", block), Procedure("p", ("x",), ("run", "x")), modes=3)
        begin = time.monotonic()
        self.assertEqual(len(needed(one, MAIN, ("end", 0), {})), 8)
        inner = ("scope", "b", ("call", "p", ("or", ("exit", "a"), ("exit", "b"))))
        two = program(("scope", "a", ("call", "p", inner)), Procedure("p", ("x",), ("run", "x")), modes=3)
        self.assertEqual(len(needed(two, MAIN, ("end", 0), {})), 8)
        self.assertLess(time.monotonic() - begin, 5)

    def test_examples(self):
        self.assertEqual(
            [beginning(GIVE, ("end", 2)), reckoned(GIVE, GIVEN, ("end", 2), {}),
             needed(GIVE, ("main", (), ()), ("end", 2), {}) == (GIVEN,),
             reckoned(GIVE, ("main", (), ()), ("end", 2), {}, rest=1)],
            [("main", (), ()), (0, 0, 3, 3), True, (1, 1, 1, 1)],
        )

    def test_least_and_greatest_books_of_the_document(self):
        now, ever = ("each", ((0, 0, 0, 0),), ()), ("each", ((3, 3, 3, 3),), ())
        self.assertEqual(closed_book(FIND, MAIN, ("end", 2)), {now: (0,) * 4, ever: (3,) * 4, MAIN: (0, 0, 3, 3)})
        self.assertEqual(closed_book(TICK, MAIN, ("end", 0), greatest=True), {MAIN: (1, 1)})
        self.assertEqual(closed_book(TICK, MAIN, ("end", 1)), {MAIN: (0, 0)})
        self.assertEqual(closed_book(CHANCE, MAIN, ("end", 1)), {MAIN: (0, 3, 3, 3)})
        self.assertEqual(closed_book(GIVE, GIVEN, ("deed", "use")), {GIVEN: (3, 3, 3, 3)})


class NotTrue(unittest.TestCase):
    """[0.15]: programs that show that these sentences are not true."""

    def reached(self, one, goal):
        good = goal[1] if goal[0] == "end" else 0
        start = beginning(one, goal)
        return closed_book(one, start, goal)[start][good]

    def kept(self, one, goal):
        good = goal[1] if goal[0] == "end" else 0
        start = beginning(one, goal)
        return closed_book(one, start, goal, greatest=True)[start][good]

    def test_other_choices_from_other_modes(self):
        one = program(("or", FLIP, NOTHING))
        self.assertEqual(self.reached(one, ("end", 1)), 3)
        self.assertEqual([Run(one, 0, 0).mode, Run(one, 1, 0).mode, Run(one, 0, 1).mode, Run(one, 1, 1).mode], [1, 0, 0, 1])

    def test_no_run_ends_without_it(self):
        one = program(("call", "main"))
        self.assertEqual((self.reached(one, ("end", 3)), self.kept(one, ("end", 0))), (0, 3))
        self.assertEqual(Run(one, 0).state, "far")

    def test_two_sets(self):
        one = program(("or", UP, DOWN))
        self.assertEqual([self.reached(one, ("end", good)) for good in (1, 2, 0)], [3, 3, 0])

    def test_an_answer_that_does_nothing(self):
        one = program(("answer", (("s", NOTHING),), ("raise", "s")), signals=("s",))
        self.assertEqual(self.reached(one, ("end", 3)), 3)
        self.assertEqual(self.reached(program(("raise", "s"), signals=("s",)), ("end", 3)), 0)

    def test_keeping_for_every_set_is_no_reaching(self):
        one = program(("call", "main"))
        self.assertEqual([self.kept(one, ("end", good)) for good in range(4)], [3, 3, 3, 3])
        self.assertEqual([self.reached(one, ("end", good)) for good in range(4)], [0, 0, 0, 0])

    def test_whoever_reaches_keeps(self):
        maker = Maker(71)
        dice = random.Random(72)
        for _ in range(80):
            one = maker.program(depth=3, loops=True, modes=dice.choice((1, 2)))
            goal = any_goal(one, dice)
            reached, kept = self.reached(one, goal), self.kept(one, goal)
            self.assertTrue(members(reached) <= members(kept))


if __name__ == "__main__":
    unittest.main()
