"""Stage 12: free signals, and those that come out."""

import unittest

from handedworld.ask.goals import reached
from handedworld.base.procedures import Procedure
from handedworld.base.programs import Program
from handedworld.errors import InvalidProgram, TooMany, UnknownName
from handedworld.signals.free import free_signals, signals_out
from samples import FIND, GIVE, Maker, crowd, is_word, refused, swarm, wrong_values
import tellings

NOTHING = ("seq",)
ASK = ("raise", "a")
ALONE = GIVE.with_procedure(Procedure("main", (), ("or", ("call", "work"), ("seq",))))


class Free(unittest.TestCase):
    def frees(self, body, *rows):
        one = Program(1, ("a", "b"), Procedure("main", (), NOTHING), Procedure("p", ("x",), body), *rows)
        self.assertEqual(free_signals(one, "main"), ())
        return free_signals(one, "p")

    def test_terms(self):
        both = ("seq", ("raise", "b"), ASK, ASK)
        for body, expected in (
            (ASK, ("a",)), (both, ("a", "b")), (NOTHING, ()), (("run", "x"), ()), (("do", "a", (0,)), ()),
            (("or", ASK, NOTHING), ("a",)), (("and", NOTHING, ASK), ("a",)), (("case", ASK), ("a",)),
            (("scope", "a", ("exit", "a")), ()), (("scope", "l", ("seq", ("exit", "l"), ASK)), ("a",)),
        ):
            self.assertEqual(self.frees(body), expected)

    def test_answers(self):
        both = ("seq", ("raise", "b"), ASK)
        for body, expected in (
            (("answer", (("a", NOTHING),), ASK), ()), (("answer", (("a", NOTHING),), both), ("b",)),
            (("answer", (("a", ASK),), ASK), ("a",)), (("answer", (("a", ("raise", "b")),), NOTHING), ("b",)),
            (("answer", (("a", ("raise", "b")), ("b", ASK)), NOTHING), ("a", "b")),
            (("answer", (("a", NOTHING), ("b", NOTHING)), both), ()),
            (("answer", (("b", NOTHING),), ("answer", (("a", ("raise", "b")),), ASK)), ()),
            (("answer", (("a", ("raise", "b")),), ("answer", (("b", NOTHING),), ASK)), ("b",)),
            (("answer", (("a", ("answer", (("a", NOTHING),), ASK)),), ASK), ()),
        ):
            self.assertEqual(self.frees(body), expected)

    def test_calls(self):
        rows = Procedure("q", (), ASK), Procedure("r", ("y",), ("answer", (("b", NOTHING),), ("seq", ("run", "y"), ("raise", "b"))))
        for body, expected in (
            (("call", "q"), ("a",)), (("call", "r", NOTHING), ()), (("call", "r", ("raise", "b")), ("b",)),
            (("call", "r", ("call", "q")), ("a",)), (("answer", (("a", NOTHING),), ("call", "r", ("call", "q"))), ()),
            (("answer", (("a", NOTHING),), ("call", "r", ("raise", "b"))), ("b",)), (("call", "p", ("call", "q")), ("a",)),
            (("call", "p", ("run", "x")), ()),
        ):
            self.assertEqual(self.frees(body, *rows), expected)

    def test_rings(self):
        ring = ("call", "q"), ("call", "r"), ("answer", (("a", ("raise", "b")),), ("seq", ASK, ("call", "p")))
        one = Program(
            1, ("a", "b"), Procedure("main", (), ("call", "p")), Procedure("p", (), ring[0]), Procedure("q", (), ring[1]),
            Procedure("r", (), ring[2]), Procedure("s", (), ("answer", (("b", ASK),), ("call", "q"))),
        )
        self.assertEqual([free_signals(one, name) for name in ("main", "p", "q", "r", "s")], [("b",)] * 4 + [("a",)])
        lone = one.with_procedure(Procedure("r", (), ("call", "p")))
        self.assertEqual([free_signals(lone, name) for name in ("main", "p", "q", "r", "s")], [()] * 4 + [("a",)])

    def test_told_once_more(self):
        maker = Maker(141)
        seen = set()
        for turn in range(150):
            one = maker.program(depth=4, loops=turn % 2 == 0, signals=("ask", "hey"))
            for name in one.names:
                self.assertEqual(free_signals(one, name), tellings.free_signals(one, name))
                seen.add(free_signals(one, name))
        self.assertEqual(len(seen), 4)

    def test_wrong_arguments(self):
        for value in wrong_values():
            if type(value) is not Program:
                refused(self, InvalidProgram, lambda: free_signals(value, None))
                refused(self, InvalidProgram, lambda: signals_out(value))
            if not is_word(value) or value not in ("main",):
                refused(self, UnknownName, lambda: free_signals(GIVE, value), keeps=("name", value))
        refused(self, UnknownName, lambda: free_signals(FIND, "work"), keeps=("name", "work"))


class Out(unittest.TestCase):
    def test_against_goals(self):
        maker = Maker(142)
        found = 0
        for turn in range(100):
            one = maker.program(depth=4, loops=turn % 3 > 0, signals=(("hey",), ("ask", "hey"))[turn % 2])
            out = signals_out(one)
            self.assertEqual(tuple(out), free_signals(one, "main"))
            for signal in one.signals:
                self.assertEqual(out.get(signal, 0), reached(one, ("signal", signal)))
            found += any(out.values())
        self.assertGreater(found, 10)

    def test_the_limit(self):
        self.assertEqual(signals_out(swarm("or")), {})
        loud = swarm("or").with_signals(("a",)).with_procedure(Procedure("main", (), ("seq", ("call", "q", NOTHING), ASK)))
        refused(self, TooMany, lambda: signals_out(loud), keeps=("limit", 800))
        near = crowd("or").with_signals(("a",))
        body = near["main"].body
        self.assertEqual(signals_out(near.with_procedure(Procedure("main", (), ("seq", body, ASK)))), {"a": 7})

    def test_examples(self):
        self.assertEqual(
            [free_signals(GIVE, "work"), free_signals(GIVE, "main"), signals_out(GIVE), signals_out(ALONE)],
            [("need",), (), {}, {"need": 3}],
        )


if __name__ == "__main__":
    unittest.main()
