"""[0.7] to [0.9], [4.1], [4.2]: runs."""

import random
import time
import unittest

import oracle
from handedworld.base.procedures import Procedure
from handedworld.base.programs import Program
from handedworld.errors import InvalidNumber, InvalidOperation, InvalidProgram
from handedworld.runs import runs
from handedworld.runs.runs import Run, each_run
from samples import BIG, CHANCE, FIND, GIVE, Maker, TICK, is_int, is_word, refused, wrong_values

NOTHING = ("seq",)
UP = ("do", "up", (1, 1))
DOWN = ("do", "down", (0, 0))
BAR = ("do", "bar", (None, None))
HALF = ("do", "half", (None, 0))


def deed(word, *table):
    return ("do", word, table or (0, 0))


def program(body, *rows, signals=(), modes=2):
    return Program(modes, signals, Procedure("main", (), body), *rows)


def run(body, *rows, start=0, choices=(), until=None, signals=()):
    return Run.of(program(body, *rows, signals=signals), start, choices, until=until)


def told(one):
    """All that a run tells."""
    return (one.state, one.mode, one.words, one.modes, one.steps, one.side, one.options, one.signal, one.scopes)


class Words(unittest.TestCase):
    """Each word of [4.1]: its steps, what is done, and where the run stands."""

    def test_deeds(self):
        one = run(UP)
        self.assertEqual(told(one), ("ended", 1, ("up",), (0, 1), 1, None, 0, None, ()))
        one = run(HALF)
        self.assertEqual(told(one), ("stuck", 0, (), (0,), 1, None, 0, None, ()))
        self.assertEqual(told(run(HALF, start=1)), ("ended", 0, ("half",), (1, 0), 1, None, 0, None, ()))

    def test_sequences(self):
        self.assertEqual(told(run(NOTHING, start=1)), ("ended", 1, (), (1,), 1, None, 0, None, ()))
        one = run(("seq", UP, ("seq", DOWN, NOTHING), UP))
        self.assertEqual((one.words, one.modes, one.steps), (("up", "down", "up"), (0, 1, 0, 1), 6))
        one = run(("seq", UP, BAR, DOWN))
        self.assertEqual(told(one), ("stuck", 1, ("up",), (0, 1), 3, None, 0, None, ()))

    def test_choices(self):
        for side in ("or", "and"):
            body = ("seq", (side, UP, DOWN, NOTHING), (side, UP))
            self.assertEqual(told(run(body)), ("waiting", 0, (), (0,), 1, side, 3, None, ()))
            self.assertEqual(told(run(body, choices=(2,))), ("waiting", 0, (), (0,), 3, side, 1, None, ()))
            self.assertEqual(told(run(body, choices=(0,))), ("waiting", 1, ("up",), (0, 1), 3, side, 1, None, ()))
            last = run(body, choices=(1, 0))
            self.assertEqual(told(last), ("ended", 1, ("down", "up"), (0, 0, 1), 5, None, 0, None, ()))

    def test_cases(self):
        body = ("seq", ("case", UP, DOWN), ("case", NOTHING, HALF))
        self.assertEqual(told(run(body)), ("ended", 0, ("up", "half"), (0, 1, 0), 5, None, 0, None, ()))
        self.assertEqual(told(run(body, start=1)), ("ended", 0, ("down",), (1, 0), 5, None, 0, None, ()))

    def test_calls_and_running(self):
        twice = Procedure("twice", ("x",), ("seq", ("run", "x"), ("run", "x")))
        one = run(("call", "twice", ("seq", UP, DOWN)), twice)
        self.assertEqual((one.words, one.steps, one.state), (("up", "down") * 2, 10, "ended"))
        none = Procedure("none", ("x",), NOTHING)
        self.assertEqual(told(run(("call", "none", BAR), none)), ("ended", 0, (), (0,), 2, None, 0, None, ()))

    def test_scopes_and_exits(self):
        one = run(("seq", ("scope", "out", ("seq", UP, ("exit", "out"), BAR)), DOWN))
        self.assertEqual(told(one), ("ended", 0, ("up", "down"), (0, 1, 0), 6, None, 0, None, ()))
        one = run(("scope", "out", UP))
        self.assertEqual((one.state, one.steps), ("ended", 2))
        one = run(("scope", "a", ("seq", ("scope", "b", ("seq", ("exit", "a"), BAR)), BAR)))
        self.assertEqual((one.state, one.steps), ("ended", 5))
        one = run(("scope", "a", ("seq", ("scope", "b", ("seq", ("exit", "b"), BAR)), UP)))
        self.assertEqual((one.state, one.steps, one.words), ("ended", 6, ("up",)))

    def test_raises_and_answers(self):
        body = ("seq", ("answer", (("s", UP),), ("seq", ("raise", "s"), deed("then"))), DOWN)
        one = run(body, signals=("s",))
        self.assertEqual((one.words, one.steps, one.state), (("up", "then", "down"), 7, "ended"))
        one = run(("seq", UP, ("raise", "s"), BAR), signals=("s",))
        self.assertEqual(told(one), ("asking", 1, ("up",), (0, 1), 3, None, 0, "s", ()))
        one = run(("seq", ("answer", (("s", UP),), NOTHING), ("raise", "s")), signals=("s",))
        self.assertEqual((one.state, one.signal, one.steps), ("asking", "s", 4))
        one = run(("answer", (("t", UP),), ("raise", "s")), signals=("s", "t"))
        self.assertEqual((one.state, one.signal, one.steps), ("asking", "s", 2))

    def test_modes_of_one(self):
        one = Run(TICK, 0, until="tick")
        self.assertEqual(told(one), ("done", 0, ("tick",), (0, 0), 2, None, 0, None, ()))


class Scopes(unittest.TestCase):
    """[4.2]: which scopes are open."""

    def test_open_while_something_is_left(self):
        body = ("scope", "a", ("seq", ("scope", "b", ("seq", ("or", UP), NOTHING)), NOTHING))
        self.assertEqual(run(body).scopes, ("a", "b"))
        self.assertEqual(run(("scope", "a", ("seq", ("scope", "b", ("or", UP))))).scopes, ("a", "b"))
        self.assertEqual(run(("seq", ("scope", "a", UP), ("or", UP))).scopes, ())
        self.assertEqual(run(("scope", "a", ("seq", ("scope", "b", UP), ("or", UP)))).scopes, ("a",))

    def test_stuck_and_coming_out_leave_nothing_of_themselves(self):
        self.assertEqual(run(("scope", "a", BAR)).scopes, ())
        self.assertEqual(run(("scope", "a", ("seq", BAR, NOTHING))).scopes, ("a",))
        self.assertEqual(run(("scope", "a", ("seq", ("scope", "b", BAR), NOTHING))).scopes, ("a",))
        self.assertEqual(run(("scope", "a", ("raise", "s")), signals=("s",)).scopes, ())
        body = ("scope", "a", ("seq", ("scope", "b", ("raise", "s")), NOTHING))
        self.assertEqual(run(body, signals=("s",)).scopes, ("a",))

    def test_done_leaves_nothing_of_the_deed(self):
        self.assertEqual(run(("scope", "a", UP), until="up").scopes, ())
        self.assertEqual(run(("scope", "a", ("seq", UP, NOTHING)), until="up").scopes, ("a",))

    def test_what_was_begun_in_a_term_counts(self):
        wait = Procedure("wait", ("x",), ("seq", ("run", "x"), ("or", NOTHING)))
        self.assertEqual(run(("scope", "a", ("call", "wait", NOTHING)), wait).scopes, ("a",))
        last = Procedure("last", ("x",), ("run", "x"))
        self.assertEqual(run(("scope", "a", ("call", "last", ("or", UP))), last).scopes, ("a",))
        body = ("scope", "a", ("answer", (("s", ("and", UP)),), ("raise", "s")))
        self.assertEqual(run(body, signals=("s",)).scopes, ("a",))
        body = ("answer", (("s", ("and", UP)),), ("scope", "a", ("raise", "s")))
        self.assertEqual(run(body, signals=("s",)).scopes, ("a",))

    def test_the_same_label_from_several_calls(self):
        deep = Procedure("deep", ("x",), ("scope", "l", ("case", ("call", "next", ("run", "x")), ("or", ("run", "x")))))
        again = Procedure("next", ("x",), ("scope", "l", ("seq", UP, ("call", "deep", ("run", "x")), NOTHING)))
        one = run(("scope", "l", ("call", "deep", ("exit", "l"))), deep, again)
        self.assertEqual((one.state, one.scopes), ("waiting", ("l", "l", "l", "l")))
        self.assertEqual((one.chosen(0).state, one.chosen(0).scopes), ("ended", ()))

    def test_an_exit_leaves_the_scope_of_its_own_call(self):
        walk = Procedure(
            "walk", ("x",),
            ("scope", "l", ("seq", ("case", ("seq", UP, ("call", "walk", ("exit", "l"))), ("run", "x")), deed("in"))),
        )
        body = ("seq", ("scope", "l", ("seq", ("call", "walk", deed("never")), deed("back"))), deed("end"))
        one = run(body, walk)
        self.assertEqual((one.words, one.state), (("up", "back", "end"), "ended"))

    def test_an_exit_that_is_the_last_of_its_scope(self):
        one = run(("scope", "a", ("scope", "b", ("exit", "b"))))
        self.assertEqual((one.state, one.steps, one.scopes), ("ended", 3, ()))
        one = run(("seq", ("scope", "a", ("scope", "b", ("exit", "b"))), ("or", UP)))
        self.assertEqual(one.scopes, ())


class Meanings(unittest.TestCase):
    """What is fixed where it is written, and which answer is the nearest one."""

    def test_blocks_through_many_calls(self):
        rows = [Procedure("last", ("x",), ("run", "x"))]
        before = "last"
        for letter in "abcdef":
            rows.append(Procedure(letter, ("x",), ("call", before, ("run", "x"))))
            before = letter
        one = run(("scope", "out", ("seq", ("call", "f", ("seq", UP, ("exit", "out"))), BAR)), *rows)
        self.assertEqual((one.state, one.words), ("ended", ("up",)))
        self.assertEqual(one.steps, 2 + 7 + 7 + 3)

    def test_parameters_are_those_of_where_it_is_written(self):
        inner = Procedure("inner", ("x",), ("seq", ("run", "x"), deed("inner")))
        outer = Procedure("outer", ("x",), ("call", "inner", ("seq", deed("block"), ("run", "x"))))
        one = run(("call", "outer", deed("mine")), inner, outer)
        self.assertEqual(one.words, ("block", "mine", "inner"))
        swap = Procedure("swap", ("x", "y"), ("seq", ("run", "x"), ("run", "y")))
        start = Procedure("start", ("x", "y"), ("call", "swap", ("run", "y"), ("run", "x")))
        self.assertEqual(run(("call", "start", deed("a"), deed("b")), swap, start).words, ("b", "a"))

    def test_exits_are_those_of_where_it_is_written(self):
        inner = Procedure("inner", ("x",), ("seq", ("scope", "out", ("seq", ("run", "x"), BAR)), BAR))
        one = run(("seq", ("scope", "out", ("seq", ("call", "inner", ("exit", "out")), BAR)), UP), inner)
        self.assertEqual((one.state, one.words), ("ended", ("up",)))

    def test_answers_are_those_of_where_it_is_written(self):
        inner = Procedure("inner", ("x",), ("answer", (("s", deed("inner")),), ("seq", ("run", "x"), ("raise", "s"))))
        one = run(("answer", (("s", deed("outer")),), ("call", "inner", ("raise", "s"))), inner, signals=("s",))
        self.assertEqual(one.words, ("outer", "inner"))
        one = run(("call", "inner", ("raise", "s")), inner, signals=("s",))
        self.assertEqual((one.state, one.signal, one.words), ("asking", "s", ()))

    def test_answers_by_a_call_around(self):
        ask = Procedure("ask", (), ("raise", "s"))
        through = Procedure("through", (), ("seq", ("call", "ask"), ("answer", (("s", deed("near")),), ("call", "ask"))))
        one = run(("answer", (("s", deed("far")),), ("call", "through")), ask, through, signals=("s",))
        self.assertEqual(one.words, ("far", "near"))

    def test_a_raise_in_an_answer_is_answered_further_out(self):
        body = ("answer", (("s", deed("out")),), ("answer", (("s", ("seq", ("raise", "s"), deed("in"))),), ("raise", "s")))
        self.assertEqual(run(body, signals=("s",)).words, ("out", "in"))
        body = ("answer", (("s", ("raise", "s")),), ("raise", "s"))
        one = run(body, signals=("s",))
        self.assertEqual((one.state, one.steps), ("asking", 3))

    def test_a_raise_in_an_answer_is_not_answered_beside_it(self):
        body = ("answer", (("a", ("raise", "b")), ("b", deed("beside"))), ("raise", "a"))
        one = run(body, signals=("a", "b"))
        self.assertEqual((one.state, one.signal, one.words), ("asking", "b", ()))
        body = ("answer", (("b", deed("around")),), body)
        self.assertEqual(run(body, signals=("a", "b")).words, ("around",))

    def test_an_answer_has_the_parameters_and_exits_of_its_place(self):
        ask = Procedure("ask", ("x",), ("seq", ("raise", "s"), BAR))
        help_ = Procedure(
            "help", ("x",),
            ("scope", "l", ("answer", (("s", ("seq", ("run", "x"), ("exit", "l"))),), ("call", "ask", BAR))),
        )
        one = run(("call", "help", UP), ask, help_, signals=("s",))
        self.assertEqual((one.state, one.words, one.scopes), ("ended", ("up",), ()))

    def test_exits_out_of_deep_calls(self):
        deep = Procedure("deep", ("x",), ("seq", ("or", ("call", "deep", ("run", "x")), ("run", "x")), BAR))
        body = ("seq", ("scope", "out", ("seq", ("call", "deep", ("exit", "out")), BAR)), UP)
        for many in (0, 1, 5, 100):
            one = run(body, deep, choices=(0,) * many + (1,))
            self.assertEqual((one.state, one.words), ("ended", ("up",)))


class Stops(unittest.TestCase):
    """Each state, and which counts first."""

    def test_done(self):
        one = run(("seq", UP, DOWN, UP), until="down")
        self.assertEqual(told(one), ("done", 0, ("up", "down"), (0, 1, 0), 3, None, 0, None, ()))
        self.assertEqual(run(UP, until="up").state, "done")
        self.assertEqual(run(UP, until="down").state, "ended")
        self.assertEqual(run(BAR, until="bar").state, "stuck")

    def test_done_before_a_choice_and_an_end(self):
        self.assertEqual(run(("seq", UP, ("or", UP)), until="up").state, "done")
        self.assertEqual(run(("seq", UP, BAR), until="up").state, "done")

    def count(self, many):
        """A body that takes just so many steps, at most 1225, and the procedures that it needs."""
        rows = []
        parts = []
        left = many - 1
        for letter in "abcdefgh":
            size = min(left, 160)
            if size >= 9:
                rows.append(Procedure(letter, (), self.sized(size - 1)))
                parts.append(("call", letter))
                left -= size
        return ("seq", *parts, *[NOTHING] * left), rows

    def sized(self, many):
        """A body of at most 40 terms that takes so many steps, from 5 on, by running a block often."""
        if many <= 40:
            return ("seq", *[NOTHING] * (many - 1))
        # 1 for seq, 1 for each call of tens with 1 + 10 * 2 steps behind it
        tens = (many - 1) // 22
        rest = many - 1 - 22 * tens
        return ("seq", *[("call", "tens", NOTHING)] * tens, *[NOTHING] * rest)

    def program_of(self, many, behind):
        body, rows = self.count(many)
        tens = Procedure("tens", ("x",), ("seq", *[("run", "x")] * 10))
        return Program(2, ("s",), Procedure("main", (), body + behind), *rows, tens)

    def test_just_so_many_steps(self):
        for many in (20, 100, 400, 999, 1000):
            one = Run(self.program_of(many, ()), 0)
            self.assertEqual((one.state, one.steps), ("ended", many))
        one = Run(self.program_of(1001, ()), 0)
        self.assertEqual((one.state, one.steps), ("far", 1000))

    def test_a_choice_behind(self):
        waiting = Run(self.program_of(999, (("or", NOTHING, UP),)), 0)
        self.assertEqual((waiting.state, waiting.steps, waiting.side, waiting.options), ("waiting", 999, "or", 2))
        far = Run(self.program_of(1000, (("or", NOTHING, UP),)), 0)
        self.assertEqual((far.state, far.steps, far.side, far.options), ("far", 1000, None, 0))
        self.assertEqual((waiting.chosen(0).state, waiting.chosen(0).steps), ("far", 1000))
        refused(self, InvalidOperation, lambda: far.chosen(0))
        refused(self, InvalidOperation, lambda: Run(self.program_of(1001, (("or", NOTHING),)), 0, 0))
        before = Run(self.program_of(998, (("and", NOTHING, UP),)), 0, 1)
        self.assertEqual((before.state, before.steps, before.mode), ("ended", 1000, 1))

    def test_what_counts_in_the_last_step(self):
        self.assertEqual(Run(self.program_of(999, (BAR,)), 0).state, "stuck")
        self.assertEqual(Run(self.program_of(1000, (BAR,)), 0).state, "far")
        self.assertEqual(Run(self.program_of(999, (("raise", "s"),)), 0).state, "asking")
        self.assertEqual(Run(self.program_of(1000, (("raise", "s"),)), 0).state, "far")
        self.assertEqual(Run(self.program_of(999, (UP, DOWN)), 0, until="up").state, "done")
        self.assertEqual(Run(self.program_of(1000, (UP, DOWN)), 0, until="up").state, "far")
        self.assertEqual(Run(self.program_of(999, (UP,)), 0).state, "ended")
        self.assertEqual(Run(self.program_of(999, (UP, DOWN)), 0).state, "far")

    def test_going_on_for_ever(self):
        self.assertEqual((Run(TICK, 0).state, Run(TICK, 0).steps, len(Run(TICK, 0).words)), ("far", 1000, 333))
        hold = program(("scope", "l", ("seq", ("call", "main"), NOTHING)))
        self.assertEqual(Run(hold, 0).scopes, ("l",) * 334)

    def test_choices_left(self):
        for body, state in ((UP, "ended"), (BAR, "stuck"), (("raise", "s"), "asking"), (("call", "main"), "far")):
            one = run(body, signals=("s",))
            self.assertEqual(one.state, state)
            refused(self, InvalidOperation, lambda: one.chosen(0))
            self.assertEqual(one.chosen(), one)
        refused(self, InvalidOperation, lambda: run(("seq", UP, ("or", UP)), choices=(0,), until="up"))
        refused(self, InvalidOperation, lambda: run(("or", UP), choices=(0, 0)))

    def test_choices_that_are_not_there(self):
        body = ("or", UP, ("and", DOWN, UP, NOTHING))
        for choices in ((2,), (1, 3), (BIG,), (1, BIG), (0, 0), (1, 0, 0)):
            refused(self, InvalidOperation, lambda: run(body, choices=choices))
        for choices in ((-1,), (True,), (False,), (None,), ("0",), ((0,),), ([0],), (1, True), (1, -1), (GIVE,)):
            refused(self, InvalidOperation, lambda: run(body, choices=choices))


class Runs(unittest.TestCase):
    def test_constant(self):
        self.assertEqual(runs.MAX_STEPS, 1000)

    def test_what_it_keeps(self):
        one = Run(CHANCE, 1, 0, until="flip")
        self.assertEqual((one.program, one.start, one.choices, one.until), (CHANCE, 1, (0,), "flip"))
        self.assertEqual((Run(CHANCE, 0).choices, Run(CHANCE, 0).until), ((), None))

    def test_of(self):
        self.assertEqual(Run.of(CHANCE, 0, (0, 1)), Run(CHANCE, 0, 0, 1))
        self.assertEqual(Run.of(CHANCE, 0, (0,), until="flip"), Run(CHANCE, 0, 0, until="flip"))
        self.assertEqual(Run.of(CHANCE, 0, ()).state, "waiting")
        for value in wrong_values():
            if type(value) is not tuple:
                refused(self, InvalidOperation, lambda: Run.of(CHANCE, 0, value))
                refused(self, InvalidOperation, lambda: Run.of(CHANCE, 0, value, until="UP"))
                refused(self, InvalidNumber, lambda: Run.of(CHANCE, 2, value), keeps=("value", 2))
                refused(self, InvalidProgram, lambda: Run.of(None, 2, value))

    def test_chosen(self):
        one = Run(CHANCE, 0, until="down")
        two = one.chosen(0)
        self.assertEqual(two, Run(CHANCE, 0, 0, until="down"))
        self.assertEqual((one.choices, two.chosen(1).choices, one.chosen(0, 1)), ((), (0, 1), two.chosen(1)))
        for more in ((2,), (0, 2), (-1,), (True,), (0, 0, 0), (None,), ((0,),), (0, False)):
            refused(self, InvalidOperation, lambda: one.chosen(*more))
        self.assertEqual(one, Run(CHANCE, 0, until="down"))

    def test_begun(self):
        one = Run(CHANCE, 0, 1, 1, until="other")
        self.assertEqual([one.begun(many) for many in range(3)], [Run.of(CHANCE, 0, (1,) * many, until="other") for many in range(3)])
        self.assertEqual(one.begun(2).until, "other")
        for value in wrong_values():
            if not is_int(value) or not 0 <= value <= 2:
                refused(self, InvalidNumber, lambda: one.begun(value), keeps=("value", value))
        refused(self, InvalidNumber, lambda: Run(CHANCE, 0).begun(1), keeps=("value", 1))

    def test_len_and_str(self):
        self.assertEqual([len(Run(CHANCE, 0)), len(Run(CHANCE, 0, 1)), len(Run(CHANCE, 0, 1, 0))], [0, 1, 2])
        self.assertEqual(str(Run(CHANCE, 0)), "run by 0 choices, waiting in 0")
        self.assertEqual(str(Run(CHANCE, 0, 0)), "run by 1 choices, waiting in 1")
        self.assertEqual(str(run(BAR)), "run by 0 choices, stuck in 0")
        self.assertEqual(str(run(("raise", "s"), start=1, signals=("s",))), "run by 0 choices, asking in 1")
        self.assertEqual(str(run(UP, until="up")), "run by 0 choices, done in 1")
        self.assertEqual(str(run(("call", "main"))), "run by 0 choices, far in 0")

    def test_equal_and_not(self):
        one = Run(CHANCE, 0, 1)
        again = Program(2, (), *CHANCE.procedures)
        self.assertTrue(one == Run(again, 0, 1))
        self.assertFalse(one != Run(again, 0, 1))
        for other in (Run(CHANCE, 1, 1), Run(CHANCE, 0), Run(CHANCE, 0, 0), Run(CHANCE, 0, 1, until="other")):
            self.assertTrue(one != other)
            self.assertFalse(one == other)
        self.assertFalse(one == Run(CHANCE.with_signals(("s",)), 0, 1))
        for value in wrong_values():
            self.assertIs(one == value, False)
            self.assertIs(one != value, True)

    def test_no_iteration_and_no_change(self):
        with self.assertRaises(TypeError):
            iter(Run(CHANCE, 0))
        one = Run(CHANCE, 0)
        for name in ("program", "start", "choices", "until", "state", "mode", "words", "modes", "steps", "side", "scopes"):
            with self.assertRaises(AttributeError):
                setattr(one, name, 0)

    def test_wrong_arguments(self):
        for value in wrong_values():
            if type(value) is not Program:
                refused(self, InvalidProgram, lambda: Run(value, None, None, until=0))
            if not is_int(value) or not 0 <= value <= 1:
                refused(self, InvalidNumber, lambda: Run(CHANCE, value, None, until=0), keeps=("value", value))
            if not is_int(value) or value < 0:
                refused(self, InvalidOperation, lambda: Run(CHANCE, 0, value))
                refused(self, InvalidOperation, lambda: Run(CHANCE, 0, 0, value))
            if value is not None and not is_word(value):
                refused(self, InvalidOperation, lambda: Run(CHANCE, 0, until=value))

    def test_starts(self):
        for modes in (1, 2, 3):
            one = Program(modes, (), Procedure("main", (), NOTHING))
            for start in range(-1, 5):
                if 0 <= start < modes:
                    self.assertEqual((Run(one, start).mode, Run(one, start).modes), (start, (start,)))
                else:
                    refused(self, InvalidNumber, lambda: Run(one, start), keeps=("value", start))

    def test_against_runs_told_once_more(self):
        maker = Maker(11)
        dice = random.Random(12)
        seen = {}
        for turn in range(900):
            one = maker.program(depth=5, loops=turn % 3 == 0)
            for _ in range(4):
                start = dice.randrange(one.modes)
                choices = tuple(dice.choice((0, 0, 1, 1, 2)) for _ in range(dice.randrange(6)))
                until = dice.choice((None, "up", "go"))
                self.compare(one, start, choices, until, seen)
        self.assertEqual(set(seen), {"done", "ended", "stuck", "asking", "far", "waiting", "bad", "left"})
        self.assertGreater(min(seen.values()), 20)

    def compare(self, one, start, choices, until, seen):
        try:
            expected = oracle.go(one, start, choices, until)
        except oracle.Bad:
            seen["bad"] = seen.get("bad", 0) + 1
            refused(self, InvalidOperation, lambda: Run.of(one, start, choices, until=until))
            return
        if expected.left_over > 0:
            seen["left"] = seen.get("left", 0) + 1
            refused(self, InvalidOperation, lambda: Run.of(one, start, choices, until=until))
            return
        seen[expected.state] = seen.get(expected.state, 0) + 1
        self.assertEqual(told(Run.of(one, start, choices, until=until)), tuple(expected)[:-1])

    def test_examples(self):
        self.assertEqual(
            [Run(CHANCE, 0).side, Run(CHANCE, 0).options, Run(CHANCE, 0, 0).side, Run(CHANCE, 0, 0, 1).mode,
             Run(CHANCE, 0, 0, 1).modes, Run(CHANCE, 0, 0, 1).steps, str(Run(CHANCE, 1, 1, 0))],
            ["and", 2, "or", 1, (0, 1), 5, "run by 2 choices, ended in 0"],
        )
        self.assertEqual(
            [Run(FIND, 0).state, Run(FIND, 0).words, Run(FIND, 0).steps, Run(FIND, 0, until="look").state,
             Run(FIND, 0, until="look").scopes, Run(FIND, 0).scopes],
            ["ended", ("look",), 7, "done", ("out",), ()],
        )
        hand = Procedure(
            "hand", ("x",), ("answer", (("need", ("do", "inner", (0, 0))),), ("seq", ("run", "x"), ("call", "ask")))
        )
        outer = Procedure(
            "main", (), ("answer", (("need", ("do", "outer", (1, 1))),), ("call", "hand", ("raise", "need")))
        )
        nearer = Program(2, ("need",), outer, hand, Procedure("ask", (), ("raise", "need")))
        self.assertEqual(
            [Run(nearer, 0).words, Run(nearer, 0).modes, Run(nearer, 0).steps, Run(GIVE, 0).words,
             Run(nearer.with_procedure(Procedure("main", (), ("call", "ask"))), 0).signal],
            [("outer", "inner"), (0, 1, 0), 10, ("give", "use"), "need"],
        )


class EachRun(unittest.TestCase):
    def test_examples(self):
        self.assertEqual(
            [[one.choices for one in each_run(CHANCE, 0, 2)], [one.mode for one in each_run(CHANCE, 0, 2)],
             [one.state for one in each_run(CHANCE, 0, 1)]],
            [[(0, 0), (0, 1), (1, 0), (1, 1)], [0, 1, 1, 0], ["waiting", "waiting"]],
        )

    def expected(self, one, start, most, until):
        """The runs that are asked for, by trying all choices."""
        found = []
        tried = [()]
        while tried:
            choices = tried.pop(0)
            this = Run.of(one, start, choices, until=until)
            if this.state != "waiting" or len(choices) == most:
                found.append(this)
            else:
                tried = [choices + (index,) for index in range(this.options)] + tried
        return found

    def test_all_numbers_of_choices(self):
        maker = Maker(13)
        many = 0
        for turn in range(120):
            one = maker.program(depth=4, loops=turn % 4 == 0)
            for most in range(0, 4 if turn % 10 else 7):
                until = (None, "up")[turn % 2]
                got = list(each_run(one, 0, most, until=until))
                self.assertEqual(got, self.expected(one, 0, most, until))
                self.assertEqual([this.choices for this in got], sorted(this.choices for this in got))
                for this in got:
                    self.assertEqual(this.until, until)
                    self.assertTrue(len(this) == most if this.state == "waiting" else len(this) <= most)
                many += len(got)
        self.assertGreater(many, 500)

    def test_runs_that_wait_have_just_so_many_choices(self):
        body = ("seq", ("or", UP, ("and", DOWN, ("or", UP, DOWN, NOTHING))), ("or", NOTHING))
        one = program(body)
        self.assertEqual([this.choices for this in each_run(one, 0, 0)], [()])
        self.assertEqual([this.choices for this in each_run(one, 0, 1)], [(0,), (1,)])
        self.assertEqual([this.choices for this in each_run(one, 0, 2)], [(0, 0), (1, 0), (1, 1)])
        self.assertEqual([this.state for this in each_run(one, 0, 2)], ["ended", "waiting", "waiting"])
        expected = [(0, 0), (1, 0, 0), (1, 1, 0), (1, 1, 1), (1, 1, 2)]
        self.assertEqual([this.choices for this in each_run(one, 0, 3)], expected)
        expected = [(0, 0), (1, 0, 0), (1, 1, 0, 0), (1, 1, 1, 0), (1, 1, 2, 0)]
        for most in (4, 5, 6):
            self.assertEqual([this.choices for this in each_run(one, 0, most)], expected)

    def test_the_first_run_comes_at_once(self):
        wide = ("or", *[UP] * 37)
        one = program(("seq", wide, ("call", "main")))
        begin = time.monotonic()
        for this in each_run(one, 0, 6):
            self.assertEqual(this.choices, (0,) * 6)
            break
        several = []
        for this in each_run(one, 0, 6):
            several.append(this.choices)
            if len(several) == 100:
                break
        self.assertEqual(several[36:39], [(0,) * 5 + (36,), (0,) * 4 + (1, 0), (0,) * 4 + (1, 1)])
        self.assertLess(time.monotonic() - begin, 5)

    def test_errors_come_with_the_first_run(self):
        for told, keeps, error in (
            ((None, 0, 0), {}, InvalidProgram),
            ((CHANCE, 2, 0), {"keeps": ("value", 2)}, InvalidNumber),
            ((CHANCE, 0, 7), {"keeps": ("value", 7)}, InvalidNumber),
        ):
            runs_asked = each_run(*told)
            refused(self, error, lambda: next(runs_asked), **keeps)
        runs_asked = each_run(CHANCE, 0, 0, until="UP")
        refused(self, InvalidOperation, lambda: next(runs_asked))

    def test_wrong_arguments(self):
        for value in wrong_values():
            if type(value) is not Program:
                refused(self, InvalidProgram, lambda: list(each_run(value, None, None, until=0)))
            if not is_int(value) or not 0 <= value <= 1:
                refused(self, InvalidNumber, lambda: list(each_run(CHANCE, value, None, until=0)), keeps=("value", value))
            if not is_int(value) or not 0 <= value <= 6:
                refused(self, InvalidNumber, lambda: list(each_run(CHANCE, 0, value, until=0)), keeps=("value", value))
            if value is not None and not is_word(value):
                refused(self, InvalidOperation, lambda: list(each_run(CHANCE, 0, 0, until=value)))


if __name__ == "__main__":
    unittest.main()
