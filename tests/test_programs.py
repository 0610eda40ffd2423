"""[0.7], [0.8] and "class Program"."""

import unittest

from handedworld.base import programs
from handedworld.base.procedures import Procedure
from handedworld.base.programs import Program
from handedworld.errors import InvalidOperation, InvalidProgram, UnknownName
from samples import BIG, CHANCE, EACH, FIND, GIVE, Maker, WORK, is_int, program_or_none, refused, wrong_values

NOTHING = ("seq",)
MAIN = Procedure("main", (), NOTHING)
FLIP = ("do", "flip", (1, 0))


def main(body):
    """A main procedure with this body."""
    return Procedure("main", (), body)


def named(name, *parameters):
    """A procedure that does nothing."""
    return Procedure(name, parameters, NOTHING)


class Rules(unittest.TestCase):
    def right(self, modes, signals, *rows):
        one = Program(modes, signals, *rows)
        self.assertEqual((one.modes, one.signals, one.procedures), (modes, signals, rows))
        self.assertEqual(Program.of(modes, signals, rows), one)

    def wrong(self, modes, signals, *rows):
        refused(self, InvalidProgram, lambda: Program(modes, signals, *rows))
        refused(self, InvalidProgram, lambda: Program.of(modes, signals, rows))

    def test_modes(self):
        for modes in (1, 2, 3):
            self.right(modes, (), MAIN)
        for modes in (0, 4, -1, True, False, None, "2", (2,), [1], BIG, MAIN):
            self.wrong(modes, (), MAIN)

    def test_signals(self):
        for signals in ((), ("a",), ("a", "b"), ("a", "ab"), ("main", "x")):
            self.right(1, signals, MAIN)
        for signals in (("b", "a"), ("a", "a"), ("a", "b", "c"), ["a"], "a", None, ("A",), (1,), (None,), (("a",),), {"a": 1}, True):
            self.wrong(1, signals, MAIN)

    def test_main(self):
        self.right(1, (), MAIN)
        self.right(1, (), named("other"), MAIN)
        self.wrong(1, ())
        self.wrong(1, (), named("other"))
        self.wrong(1, (), named("main", "x"))
        self.wrong(1, (), MAIN, named("main", "x"))

    def test_names(self):
        self.right(1, (), MAIN, named("a"), named("b"))
        self.wrong(1, (), MAIN, named("a"), named("a"))
        self.wrong(1, (), MAIN, named("a", "x"), named("b"), named("a"))
        self.wrong(1, (), MAIN, MAIN)

    def test_number_of_procedures(self):
        rows = [named(letter) for letter in "abcdefghij"]
        self.right(1, (), *rows[:9], MAIN)
        self.right(1, (), MAIN, *rows[:9])
        self.wrong(1, (), *rows, MAIN)
        self.wrong(1, (), *rows)
        self.wrong(1, (), MAIN, *[named("abcdefghij"[k % 10] + "abcdefghij"[k // 10]) for k in range(40)])

    def test_no_procedures(self):
        for value in wrong_values():
            if type(value) is not Procedure:
                self.wrong(1, (), MAIN, value)
                self.wrong(1, (), value, MAIN)
            if type(value) is not tuple:
                refused(self, InvalidProgram, lambda: Program.of(1, (), value))
        for rows in ([MAIN], {"main": MAIN}, MAIN, None, "main", 0):
            refused(self, InvalidProgram, lambda: Program.of(1, (), rows))

    def test_tables(self):
        for modes in (1, 2, 3):
            for many in (1, 2, 3):
                for entry in (None, 0, 1, 2):
                    body = ("do", "go", (entry,) * many)
                    fits = many == modes and (entry is None or entry < modes)
                    (self.right if fits else self.wrong)(modes, (), main(body))
                    (self.right if fits else self.wrong)(modes, (), MAIN, Procedure("p", (), ("seq", ("or", body))))

    def test_one_entry_alone(self):
        for place in range(3):
            for entry in (2, None):
                table = [0, 0, 0]
                table[place] = entry
                self.right(3, (), main(("do", "go", tuple(table))))
        self.wrong(2, (), main(("do", "go", (0, 2))))
        self.wrong(2, (), main(("do", "go", (2, 0))))

    def test_cases(self):
        for modes in (1, 2, 3):
            for many in (1, 2, 3):
                body = ("case",) + (NOTHING,) * many
                (self.right if many == modes else self.wrong)(modes, (), main(body))
                (self.right if many == modes else self.wrong)(modes, (), MAIN, Procedure("p", (), ("scope", "l", body)))

    def test_calls(self):
        two = named("two", "x", "y")
        self.right(1, (), main(("call", "two", NOTHING, NOTHING)), two)
        self.right(1, (), main(("call", "main")))
        self.right(1, (), two, main(("call", "two", ("call", "main"), ("call", "two", NOTHING, NOTHING))))
        self.wrong(1, (), main(("call", "two", NOTHING)), two)
        self.wrong(1, (), main(("call", "two")), two)
        self.wrong(1, (), main(("call", "two", NOTHING, NOTHING, NOTHING)), two)
        self.wrong(1, (), main(("call", "tow", NOTHING, NOTHING)), two)
        self.wrong(1, (), main(("call", "main", NOTHING)))
        self.wrong(1, (), main(("call", "two", ("call", "gone"), NOTHING)), two)
        self.wrong(1, (), main(("answer", (("s", ("call", "gone")),), NOTHING)))
        self.wrong(1, ("s",), main(("answer", (("s", ("call", "gone")),), NOTHING)))
        self.wrong(1, (), main(("call", "four", NOTHING, NOTHING, NOTHING, NOTHING)), named("four", "x", "y", "z"))

    def test_signals_in_bodies(self):
        self.right(1, ("s",), main(("raise", "s")))
        self.right(1, ("a", "s"), main(("answer", (("a", ("raise", "s")),), NOTHING)))
        self.wrong(1, (), main(("raise", "s")))
        self.wrong(1, ("t",), main(("raise", "s")))
        self.wrong(1, ("s",), main(("answer", (("a", NOTHING),), NOTHING)))
        self.wrong(1, ("a",), main(("answer", (("a", ("raise", "s")),), NOTHING)))
        self.wrong(1, ("a", "b"), main(("answer", (("a", NOTHING), ("b", NOTHING), ("c", NOTHING)), NOTHING)))
        self.wrong(1, (), MAIN, Procedure("p", ("x",), ("call", "p", ("raise", "s"))))

    def test_an_answer_may_name_signals_that_none_raises(self):
        self.right(1, ("a", "b"), main(("answer", (("a", NOTHING), ("b", NOTHING)), NOTHING)))

    def test_programs_made_by_chance(self):
        maker = Maker(7)
        for _ in range(80):
            one = maker.program(loops=True)
            for modes in (1, 2, 3):
                other = program_or_none(modes, one.signals, *one.procedures)
                cases = {len(term) - 1 for p in one.procedures for term in all_in(p.body) if term[0] == "case"}
                tables = [term[2] for p in one.procedures for term in all_in(p.body) if term[0] == "do"]
                fits = cases <= {modes} and all(len(t) == modes for t in tables)
                fits = fits and all(entry is None or entry < modes for t in tables for entry in t)
                self.assertIs(other is not None, fits)
            used = {signal for p in one.procedures for signal in p.signals}
            for signals in ((), ("ask",), ("hey",), ("ask", "hey")):
                other = program_or_none(one.modes, signals, *one.procedures)
                self.assertIs(other is not None, used <= set(signals))


def all_in(term):
    """The list of the term and all terms in it."""
    parts = [pair[1] for pair in term[1]] + [term[2]] if term[0] == "answer" else term[1:]
    parts = [part for part in parts if type(part) is tuple and part and type(part[0]) is str]
    return [term] + [one for part in parts for one in all_in(part)]


class Programs(unittest.TestCase):
    def test_constant(self):
        self.assertEqual(programs.MAX_PROCEDURES, 10)

    def test_properties(self):
        one = Program(2, ("a", "b"), named("z"), main(("and", FLIP, ("do", "up", (1, 1)))), Procedure("k", ("x",), FLIP))
        self.assertEqual((one.modes, one.signals), (2, ("a", "b")))
        self.assertEqual([p.named for p in one.procedures], ["z", "main", "k"])
        self.assertEqual(one.names, ("k", "main", "z"))
        self.assertEqual(one.words, ("flip", "up"))
        self.assertEqual(one.sides, ("and",))
        self.assertEqual(len(one), 3)
        self.assertEqual(str(one), "program of 2 modes, 2 signals, 3 procedures")
        self.assertEqual(str(Program(1, (), MAIN)), "program of 1 modes, 0 signals, 1 procedures")

    def test_sides(self):
        both = ("call", "p", ("or", NOTHING), ("answer", (("s", ("and", NOTHING)),), NOTHING))
        two = named("p", "x", "y")
        self.assertEqual(Program(1, ("s",), main(both), two).sides, ("and", "or"))
        self.assertEqual(Program(1, ("s",), main(("or", NOTHING)), named("p")).sides, ("or",))
        self.assertEqual(Program(1, (), MAIN, Procedure("p", (), ("and", NOTHING))).sides, ("and",))
        self.assertEqual(Program(1, (), MAIN).sides, ())

    def test_items(self):
        self.assertEqual(FIND["each"], EACH)
        self.assertEqual(GIVE["work"], WORK)
        self.assertEqual(GIVE["main"].named, "main")
        for value in wrong_values() + ["each", "works", "x"]:
            if value not in ("main", "work"):
                refused(self, UnknownName, lambda: GIVE[value], keeps=("name", value))

    def test_in(self):
        for value in wrong_values():
            self.assertIs(value in GIVE, type(value) is str and value == "main")
        self.assertTrue("work" in GIVE)
        self.assertFalse("each" in GIVE)
        self.assertFalse(WORK in GIVE)
        self.assertTrue("each" not in GIVE)

    def test_with_procedure_in_its_place(self):
        other = Procedure("work", (), ("do", "use", (0, 0)))
        one = GIVE.with_procedure(other)
        self.assertEqual(one.procedures, (GIVE["main"], other))
        self.assertEqual(GIVE["work"], WORK)
        again = GIVE.with_procedure(MAIN)
        self.assertEqual(again.procedures, (MAIN, WORK))
        self.assertEqual(GIVE.with_procedure(WORK), GIVE)

    def test_with_procedure_at_the_end(self):
        one = GIVE.with_procedure(EACH)
        self.assertEqual(one.procedures, GIVE.procedures + (EACH,))
        self.assertEqual((one.modes, one.signals), (2, ("need",)))
        self.assertEqual(len(GIVE), 2)

    def test_with_procedure_refused(self):
        before = (GIVE.procedures, str(GIVE))
        for value in wrong_values():
            if type(value) is not Procedure:
                refused(self, InvalidProgram, lambda: GIVE.with_procedure(value))
        for bad in (
            named("main", "x"),
            named("work", "x"),
            Procedure("p", (), ("raise", "other")),
            Procedure("p", (), ("call", "gone")),
            Procedure("p", (), ("do", "go", (0,))),
            Procedure("p", (), ("do", "go", (0, 2))),
            Procedure("p", (), ("case", NOTHING)),
        ):
            refused(self, InvalidProgram, lambda: GIVE.with_procedure(bad))
        self.assertEqual((GIVE.procedures, str(GIVE)), before)
        full = Program(1, (), MAIN, *[named(letter) for letter in "abcdefghi"])
        refused(self, InvalidProgram, lambda: full.with_procedure(named("j")))
        self.assertEqual(full.with_procedure(Procedure("i", ("x",), NOTHING))["i"].parameters, ("x",))

    def test_without(self):
        one = GIVE.with_procedure(EACH).without("each")
        self.assertEqual(one, GIVE)
        alone = Program(1, (), named("a"), MAIN, Procedure("b", (), ("call", "b")))
        self.assertEqual(alone.without("b").names, ("a", "main"))
        self.assertEqual(alone.without("a").names, ("b", "main"))
        self.assertEqual(len(alone), 3)

    def test_without_refused(self):
        for value in wrong_values() + ["each"]:
            if value not in ("main", "work"):
                refused(self, UnknownName, lambda: GIVE.without(value), keeps=("name", value))
        refused(self, InvalidOperation, lambda: GIVE.without("main"))
        refused(self, InvalidOperation, lambda: GIVE.without("work"))
        refused(self, InvalidOperation, lambda: FIND.without("each"))
        self.assertEqual((GIVE.names, FIND.names), (("main", "work"), ("each", "main")))

    def test_with_signals(self):
        one = GIVE.with_signals(("another", "need"))
        self.assertEqual((one.signals, one.procedures, one.modes), (("another", "need"), GIVE.procedures, 2))
        self.assertEqual(one.with_signals(("need",)), GIVE)
        self.assertEqual(CHANCE.with_signals(("a", "b")).signals, ("a", "b"))
        self.assertEqual(GIVE.signals, ("need",))

    def test_with_signals_refused(self):
        for value in wrong_values() + [("other",), ("need", "a"), ("need", "need"), ["need"], ("a", "b", "need"), "need"]:
            refused(self, InvalidProgram, lambda: GIVE.with_signals(value))
        self.assertEqual(GIVE.signals, ("need",))

    def test_equal_and_not(self):
        one = Program(2, (), MAIN, WORK_ALONE)
        self.assertTrue(one == Program(2, (), main(("seq",)), Procedure("p", ("x",), ("run", "x"))))
        self.assertFalse(one != Program(2, (), main(("seq",)), Procedure("p", ("x",), ("run", "x"))))
        for other in (
            Program(2, (), WORK_ALONE, MAIN),
            Program(1, (), MAIN, WORK_ALONE),
            Program(2, ("s",), MAIN, WORK_ALONE),
            Program(2, (), MAIN),
            Program(2, (), MAIN, WORK_ALONE, named("q")),
            Program(2, (), MAIN, named("p", "x")),
        ):
            self.assertFalse(one == other)
            self.assertTrue(one != other)
        for value in wrong_values():
            self.assertIs(CHANCE == value, False)
            self.assertIs(CHANCE != value, True)

    def test_no_iteration(self):
        for call in (lambda: iter(GIVE), lambda: list(GIVE), lambda: [one for one in GIVE], lambda: dict(GIVE)):
            with self.assertRaises(TypeError):
                call()
        with self.assertRaises(TypeError):
            _, _ = GIVE

    def test_it_never_changes(self):
        for name in ("modes", "signals", "procedures", "names", "words", "sides"):
            with self.assertRaises(AttributeError):
                setattr(GIVE, name, ())
        with self.assertRaises(TypeError):
            GIVE["main"] = MAIN
        self.assertEqual(GIVE.names, ("main", "work"))

    def test_several_wrong_at_once(self):
        for told in ((None, None), (0, ["a"], None), (True, (), MAIN), (1, ("b", "a"), named("p"))):
            refused(self, InvalidProgram, lambda: Program(*told))
        refused(self, InvalidProgram, lambda: Program.of(0, (), [MAIN]))

    def test_integers_are_integers(self):
        for value in wrong_values():
            expected = is_int(value) and 1 <= value <= 3
            self.assertIs(program_or_none(value, (), MAIN) is not None, expected)

    def test_examples(self):
        self.assertEqual(
            [GIVE.names, GIVE.words, GIVE.signals, CHANCE.sides, FIND.sides, FIND["each"] == EACH, "work" in FIND,
             len(FIND), str(GIVE)],
            [("main", "work"), ("give", "use"), ("need",), ("and", "or"), (), True, False, 2,
             "program of 2 modes, 1 signals, 2 procedures"],
        )


WORK_ALONE = Procedure("p", ("x",), ("run", "x"))

if __name__ == "__main__":
    unittest.main()
