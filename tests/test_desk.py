"""Stage 23: a desk."""

import copy
import unittest

from handedworld.ask.goals import is_goal, kept, reached
from handedworld.base.procedures import Procedure
from handedworld.base.programs import Program
from handedworld.errors import (
    InvalidNumber, InvalidOperation, InvalidProgram, NothingToUndo, Refused, TooMany, UnknownName,
)
from handedworld.house.desk import Desk
from handedworld.same.editions import exchanged, without_term
from handedworld.same.entries import entries_of
from handedworld.unused.trim import idle_parameters
from samples import BIG, CHANCE, FIND, FLIP, GIVE, Maker, TICK, crowd, is_int, is_word, refused, swarm, wrong_values
from tellings import free_signals, members

NOTHING = ("seq",)
UP = ("do", "up", (1, 1))
DOWN = ("do", "down", (0, 0))
RUN_X = ("run", "x")
EMPTY = Program(2, (), Procedure("main", (), NOTHING))
PAIR = Program(
    2, ("s",), Procedure("main", (), ("or", ("call", "one", UP), ("call", "two", DOWN))), Procedure("one", ("x",), RUN_X),
    Procedure("two", ("x",), ("or", RUN_X, RUN_X)), Procedure("flat", ("x",), NOTHING), Procedure("deaf", ("x",), ("raise", "s")), Procedure("none", (), UP),
)


class Broken(Exception):
    """An error of the one who uses the desk."""


def state(desk):
    """All that can be seen of a desk, with what can be taken back and done again."""
    other = desk.twin()
    rows = [(other.program, other.promises, other.deeds, len(other), str(other))]
    while other.deeds:
        other.undo()
        rows.append((other.program, other.promises))
    other = desk.twin()
    while True:
        try:
            other.redo()
        except NothingToUndo:
            return rows
        rows.append((other.program, other.promises, other.deeds))


def is_promise_again(value):
    """Whether a tuple of terms is a promise by its form, told once more."""
    if len(value) != 3 or type(value[0]) is not str:
        return False
    word, one, other = value
    if word in ("alike", "idle"):
        return is_word(one) and is_word(other)
    if word not in ("reach", "bar", "keep") or not is_int(one) or one < 0 or type(other) is not tuple or len(other) != 2:
        return False
    if other[0] == "end":
        return is_int(other[1]) and other[1] >= 0
    return other[0] in ("deed", "signal") and is_word(other[1])


def is_true(one, promise):
    """Whether a promise is true of a program, told once more."""
    word, this, that = promise
    if word == "alike":
        if this not in one.names or that not in one.names or free_signals(one, this) or free_signals(one, that):
            return False
        return len(one[this].parameters) == len(one[that].parameters) and entries_of(one, this) == entries_of(one, that)
    if word == "idle":
        return (this, that) in idle_parameters(one)
    if this >= one.modes or not is_goal(one, that):
        return False
    modes = members((kept if word == "keep" else reached)(one, that))
    return (this in modes) is (word != "bar")


class Model:
    """A desk with all of its states in a list."""

    def __init__(self, one):
        self.rows, self.at = [(None, one, {})], 0

    def now(self):
        return self.rows[self.at][1:]

    def push(self, call, one, promises):
        self.rows = self.rows[: self.at + 1] + [(call, one, promises)]
        self.at += 1

    def change(self, call, one):
        for name in sorted(self.now()[1]):
            if not is_true(one, self.now()[1][name]):
                return Refused, ("name", name)
        self.push(call, one, self.now()[1])


class Example(unittest.TestCase):
    def test_example(self):
        desk = Desk(GIVE)
        desk.promise("done", "reach", 0, ("deed", "use"))
        self.assertEqual(
            [desk.promises, desk.deeds, desk.undo(), desk.redo(), str(desk)],
            [{"done": ("reach", 0, ("deed", "use"))}, ("promise",), 0, 1, "desk of 2 procedures, 1 promises"],
        )


class Promises(unittest.TestCase):
    def keeps(self, one, *promise):
        desk = Desk(one)
        self.assertIs(is_true(one, promise), True)
        self.assertIsNone(desk.promise("p", *promise))
        self.assertEqual((desk["p"], desk.promises, len(desk), "p" in desk), (promise, {"p": promise}, 1, True))

    def refuses(self, one, *promise):
        desk = Desk(one)
        self.assertIs(is_true(one, promise), False)
        refused(self, Refused, lambda: desk.promise("p", *promise), keeps=("name", "p"))
        self.assertEqual((desk.promises, desk.deeds), ({}, ()))

    def test_reach_bar_keep(self):
        self.keeps(CHANCE, "reach", 0, ("end", 1))
        self.keeps(CHANCE, "keep", 1, ("end", 1))
        self.refuses(CHANCE, "bar", 0, ("end", 1))
        self.keeps(CHANCE, "bar", 0, ("end", 0))
        self.refuses(CHANCE, "reach", 0, ("end", 0))
        self.keeps(TICK, "keep", 0, ("end", 0))
        self.keeps(TICK, "bar", 0, ("end", 0))
        self.refuses(TICK, "reach", 0, ("end", 1))
        self.keeps(GIVE, "reach", 1, ("deed", "use"))
        self.keeps(GIVE, "bar", 1, ("deed", "unknown"))
        self.keeps(GIVE, "bar", 1, ("signal", "need"))
        self.refuses(GIVE, "keep", 1, ("signal", "need"))

    def test_what_the_program_has_not(self):
        """A start that is no mode and a goal that is none make each promise untrue."""
        for word in ("reach", "bar", "keep"):
            for start, goal in ((2, ("end", 3)), (9, ("end", 3)), (BIG, ("end", 3)), (0, ("end", 4)), (0, ("end", BIG)), (0, ("signal", "other")), (5, ("end", 9))):
                self.refuses(GIVE, word, start, goal)
            self.refuses(swarm("or"), word, 3, ("end", 1))
            self.refuses(swarm("or"), word, 0, ("end", 8))

    def test_alike(self):
        self.keeps(PAIR, "alike", "one", "two")
        self.keeps(PAIR, "alike", "one", "one")
        self.keeps(PAIR, "alike", "main", "main")
        for names in (("one", "flat"), ("one", "deaf"), ("deaf", "deaf"), ("one", "none"), ("none", "main"), ("one", "other"), ("other", "one"), ("other", "other")):
            self.refuses(PAIR, "alike", *names)
        loop = Program(2, (), Procedure("main", (), NOTHING), Procedure("loop", (), ("call", "loop")), Procedure("stuck", (), ("do", "a", (None, None))))
        self.keeps(loop, "alike", "loop", "stuck")

    def test_idle(self):
        self.keeps(PAIR, "idle", "flat", "x")
        self.refuses(PAIR, "idle", "one", "x")
        self.refuses(PAIR, "idle", "one", "y")
        self.refuses(PAIR, "idle", "other", "x")
        self.refuses(PAIR, "idle", "main", "main")

    def test_drawn_promises(self):
        maker = Maker(231)
        seen = {}
        for turn in range(150):
            one = maker.program(depth=4, loops=turn % 3 > 0, modes=(1, 2)[turn % 2])
            goals = [("end", maker.dice.randrange(4)), ("deed", maker.dice.choice(("up", "go"))), ("signal", maker.dice.choice(("hey", "ask")))]
            names = ("main", "one", "two", "x", "y")
            for word in ("reach", "bar", "keep", "alike", "idle"):
                if word in ("alike", "idle"):
                    promise = (word, maker.dice.choice(names[:3]), maker.dice.choice(names[1:]))
                    if word == "alike" and 2 in [len(one[name].parameters) for name in one.names]:
                        continue
                else:
                    promise = (word, maker.dice.randrange(3), maker.dice.choice(goals))
                expected = is_true(one, promise)
                (self.keeps if expected else self.refuses)(one, *promise)
                seen[(word, expected)] = seen.get((word, expected), 0) + 1
        self.assertEqual(len(seen), 10)
        self.assertGreater(min(seen.values()), 3)

    def test_forms(self):
        good = {
            "reach": (0, ("end", 0)), "bar": (1, ("deed", "use")), "keep": (0, ("signal", "need")), "alike": ("main", "work"), "idle": ("main", "x"),
        }
        desk = Desk(GIVE)
        seen = {True: 0, False: 0}
        for word, (one, other) in good.items():
            values = [(word, one, other)]
            for value in wrong_values():
                values += [(value, one, other), (word, value, other), (word, one, value), (word, one, ("end", value)), (word, one, ("deed", value)), (word, one, (value, 1))]
                values += [(value,), (word, value), (word, one, other, value), (word, one, ("signal", value))]
            values += [(), (word,), (word, one), ((word, one, other),), (word, other, one), (word, one, list(other) if type(other) is tuple else [other])]
            values += [(word, one, ("end", 1, 1)), (word, one, ("end",)), (word.upper(), one, other), (word, one, ("other", "use")), (word, one, ("ends", 1))]
            values += [("end", one, other), (word, one, ("reach", "use")), (word, one, ("run", "need")), (word, -1, other), (word, one, ("end", -1))]
            for terms in values:
                expected = is_promise_again(terms)
                seen[expected] += 1
                if not expected:
                    refused(self, InvalidOperation, lambda: desk.promise("p", *terms))
                    continue
                try:
                    desk.promise("p", *terms)
                    desk.forget("p")
                except Refused as error:
                    self.assertEqual(error.name, "p")
                    self.assertIs(is_true(GIVE, terms), False)
        self.assertGreater(min(seen.values()), 20)

    def test_names(self):
        desk = Desk(GIVE)
        for value in wrong_values():
            if not is_word(value):
                refused(self, InvalidOperation, lambda: desk.promise(value, "reach", 0, ("deed", "use")))
                refused(self, InvalidOperation, lambda: desk.promise(value))
            self.assertIs(value in desk, False)
            refused(self, UnknownName, lambda: desk.forget(value), keeps=("name", value))
            refused(self, UnknownName, lambda: desk[value], keeps=("name", value))
        desk.promise("abcdefgh", "reach", 0, ("deed", "use"))
        refused(self, InvalidOperation, lambda: desk.promise("abcdefgh", "reach", 0, ("deed", "give")))
        refused(self, InvalidOperation, lambda: desk.promise("abcdefgh", "bar", 0, ("deed", "use")))
        self.assertEqual(desk.promises, {"abcdefgh": ("reach", 0, ("deed", "use"))})

    def test_too_many(self):
        desk = Desk(swarm("or"))
        for promise in (("reach", 0, ("end", 1)), ("bar", 0, ("end", 1)), ("keep", 0, ("end", 1)), ("alike", "p", "p"), ("alike", "main", "main"), ("idle", "p", "x")):
            refused(self, TooMany, lambda: desk.promise("p", *promise), keeps=("limit", 800))
            refused(self, InvalidOperation, lambda: desk.promise("P", *promise))
        self.assertEqual(desk.deeds, ())

    def test_in_the_order_of_their_names(self):
        desk = Desk(GIVE)
        for name in ("m", "z", "a", "b"):
            desk.promise(name, "reach", 0, ("deed", "use"))
        self.assertEqual(list(desk.promises), ["a", "b", "m", "z"])
        desk.promises.clear()
        self.assertEqual(len(desk), 4)


class Changes(unittest.TestCase):
    def test_forget(self):
        desk = Desk(GIVE)
        desk.promise("a", "reach", 0, ("deed", "use"))
        desk.promise("b", "reach", 1, ("deed", "use"))
        self.assertIsNone(desk.forget("a"))
        self.assertEqual((desk.promises, desk.deeds), ({"b": ("reach", 1, ("deed", "use"))}, ("promise", "promise", "forget")))
        refused(self, UnknownName, lambda: desk.forget("a"), keeps=("name", "a"))

    def test_put(self):
        desk = Desk(GIVE)
        desk.promise("m", "reach", 0, ("deed", "use"))
        desk.promise("a", "reach", 0, ("deed", "give"))
        desk.promise("b", "bar", 0, ("end", 1))
        before = state(desk)
        refused(self, Refused, lambda: desk.put(FIND), keeps=("name", "a"))
        refused(self, TooMany, lambda: desk.put(swarm("or")), keeps=("limit", 800))
        refused(self, Refused, lambda: desk.put(GIVE.with_procedure(Procedure("main", (), ("answer", (("need", ("do", "give", (0, 0))),), ("call", "work"))))), keeps=("name", "m"))
        for value in wrong_values():
            if type(value) is not Program:
                refused(self, InvalidProgram, lambda: desk.put(value))
        self.assertEqual(state(desk), before)
        more = GIVE.with_procedure(Procedure("more", (), NOTHING))
        self.assertIsNone(desk.put(more))
        self.assertEqual((desk.program, desk.deeds[-1], len(desk)), (more, "put", 3))

    def test_too_many_in_the_order_of_names(self):
        """A promise that is not kept ahead of one about which too much is asked, and the other way round."""
        small = Program(3, (), Procedure("main", (), ("or", NOTHING, ("do", "go", (0, 1, 2)))))
        desk = Desk(small)
        desk.promise("b", "reach", 0, ("end", 1))
        desk.promise("c", "reach", 0, ("deed", "go"))
        refused(self, TooMany, lambda: desk.put(swarm("or")), keeps=("limit", 800))
        self.assertEqual(desk.deeds, ("promise", "promise"))
        two = Desk(small.with_signals(("s",)))
        two.promise("a", "bar", 0, ("signal", "s"))
        two.promise("b", "reach", 0, ("end", 1))
        refused(self, Refused, lambda: two.put(swarm("or")), keeps=("name", "a"))
        self.assertEqual((two.program, len(two.deeds)), (small.with_signals(("s",)), 2))

    def test_leave_out_and_exchange(self):
        desk = Desk(PAIR)
        self.assertIsNone(desk.leave_out("two", 0, 1))
        self.assertEqual((desk.program, desk.deeds), (without_term(PAIR, "two", 0, 1), ("leave_out",)))
        self.assertIsNone(desk.exchange("two", "flat"))
        self.assertEqual((desk.program, desk.deeds), (exchanged(without_term(PAIR, "two", 0, 1), "two", "flat"), ("leave_out", "exchange")))

    def test_promises_stay_kept(self):
        desk = Desk(PAIR)
        desk.promise("low", "reach", 0, ("end", 1))
        desk.promise("high", "reach", 0, ("end", 2))
        refused(self, Refused, lambda: desk.leave_out("main", 0, 0), keeps=("name", "high"))
        refused(self, Refused, lambda: desk.leave_out("main", 0, 1), keeps=("name", "low"))
        refused(self, Refused, lambda: desk.exchange("one", "flat"), keeps=("name", "high"))
        desk.exchange("two", "one")
        self.assertEqual(desk.deeds, ("promise", "promise", "exchange"))

    def test_errors_of_editions(self):
        desk = Desk(PAIR)
        before = state(desk)
        for value in wrong_values():
            if not is_word(value) or value not in PAIR:
                refused(self, UnknownName, lambda: desk.leave_out(value, None, None), keeps=("name", value))
                refused(self, UnknownName, lambda: desk.exchange(value, None), keeps=("name", value))
                refused(self, UnknownName, lambda: desk.exchange("one", value), keeps=("name", value))
            if not is_int(value) or value != 0:
                refused(self, InvalidNumber, lambda: desk.leave_out("two", value, None), keeps=("value", value))
            if not is_int(value) or value not in (0, 1):
                refused(self, InvalidNumber, lambda: desk.leave_out("two", 0, value), keeps=("value", value))
        refused(self, InvalidOperation, lambda: desk.exchange("one", "main"))
        desk.leave_out("two", 0, 0)
        refused(self, InvalidOperation, lambda: desk.leave_out("two", 0, 0))
        desk.undo()
        self.assertEqual(state(desk)[0], before[0])

    def test_wrong_programs(self):
        for value in wrong_values():
            if type(value) is not Program:
                refused(self, InvalidProgram, lambda: Desk(value))


class Back(unittest.TestCase):
    def many(self):
        desk = Desk(GIVE)
        desk.promise("a", "reach", 0, ("deed", "use"))
        desk.put(GIVE.with_procedure(Procedure("more", (), NOTHING)))
        desk.forget("a")
        return desk

    def test_how_many(self):
        desk = self.many()
        self.assertEqual([desk.undo(many=0), desk.redo(many=0), desk.undo(), desk.undo(many=2), desk.redo(many=0)], [3, 3, 2, 0, 0])
        self.assertEqual((desk.program, desk.promises, desk.deeds), (GIVE, {}, ()))
        self.assertEqual([desk.redo(), desk.deeds, desk.redo(many=2), desk.deeds], [1, ("promise",), 3, ("promise", "put", "forget")])
        self.assertEqual(desk, self.many())

    def test_too_many(self):
        desk = self.many()
        desk.undo()
        before = state(desk)
        for many in (3, 4, BIG):
            refused(self, NothingToUndo, lambda: desk.undo(many=many), keeps=("many", many))
        for many in (2, 3, BIG):
            refused(self, NothingToUndo, lambda: desk.redo(many=many), keeps=("many", many))
        for value in wrong_values():
            if not is_int(value) or value < 0:
                refused(self, InvalidNumber, lambda: desk.undo(many=value), keeps=("value", value))
                refused(self, InvalidNumber, lambda: desk.redo(many=value), keeps=("value", value))
        self.assertEqual(state(desk), before)
        self.assertEqual([desk.undo(many=2), desk.redo(many=3)], [0, 3])
        empty = Desk(GIVE)
        for call in (empty.undo, empty.redo):
            refused(self, NothingToUndo, call, keeps=("many", 1))
            self.assertEqual(call(many=0), 0)

    def test_a_new_call_ends_redoing(self):
        desk = self.many()
        desk.undo(many=2)
        refused(self, InvalidOperation, lambda: desk.promise("a", "reach", 0, ("deed", "use")))
        refused(self, Refused, lambda: desk.promise("b", "bar", 0, ("deed", "use")), keeps=("name", "b"))
        refused(self, UnknownName, lambda: desk.forget("b"), keeps=("name", "b"))
        refused(self, InvalidProgram, lambda: desk.put(None))
        # Calls that raise an error do not end it.
        self.assertEqual(desk.redo(), 2)
        desk.undo()
        desk.put(GIVE)
        refused(self, NothingToUndo, desk.redo, keeps=("many", 1))
        self.assertEqual(desk.deeds, ("promise", "put"))

    def test_drawn_calls(self):
        maker = Maker(232)
        seen = {}
        for turn in range(40):
            programs = [maker.program(depth=3, loops=True, modes=2, signals=()) for _ in range(4)]
            desk, model = Desk(programs[0]), Model(programs[0])
            for _ in range(25):
                way = maker.dice.choice(("promise", "promise", "forget", "put", "leave_out", "exchange", "undo", "redo", "trial", "twin"))
                expected = self.step(maker, desk, model, way, programs)
                seen[(way, expected)] = seen.get((way, expected), 0) + 1
                self.assertEqual((desk.program, desk.promises), model.now())
                self.assertEqual(desk.deeds, tuple(row[0] for row in model.rows[1 : model.at + 1]))
                self.assertEqual(str(desk), f"desk of {len(desk.program)} procedures, {len(model.now()[1])} promises")
                self.assertTrue(all(is_true(desk.program, promise) for promise in desk.promises.values()))
        self.assertGreater(len(seen), 16)

    def step(self, maker, desk, model, way, programs):
        """Does the same at the desk and the model; returns the error that both tell, or None."""
        one, promises = model.now()
        name, number = maker.dice.choice("abcd"), maker.dice.randrange(3)
        expected = None
        if way == "promise":
            promise = maker.dice.choice((("reach", number, ("end", maker.dice.randrange(5))), ("bar", number, ("deed", "up")), ("keep", number, ("end", 3)), ("idle", "one", "x")))
            call = lambda: desk.promise(name, *promise)
            if name in promises:
                expected = InvalidOperation, None
            elif not is_true(one, promise):
                expected = Refused, ("name", name)
            else:
                model.push("promise", one, {**promises, name: promise})
        elif way == "forget":
            call = lambda: desk.forget(name)
            if name not in promises:
                expected = UnknownName, ("name", name)
            else:
                model.push("forget", one, {other: promises[other] for other in promises if other != name})
        elif way == "put":
            other = maker.dice.choice(programs)
            call = lambda: desk.put(other)
            expected = model.change("put", other)
        elif way in ("leave_out", "exchange"):
            args = ("main", number, 0) if way == "leave_out" else (maker.dice.choice(("one", "two")), maker.dice.choice(("one", "two")))
            call = lambda: getattr(desk, way)(*args)
            try:
                other = (without_term if way == "leave_out" else exchanged)(one, *args)
            except (InvalidNumber, InvalidOperation) as error:
                expected = type(error), None
            else:
                expected = model.change(way, other)
        elif way in ("undo", "redo"):
            call = lambda: getattr(desk, way)(many=number)
            most = model.at if way == "undo" else len(model.rows) - 1 - model.at
            if number > most:
                expected = NothingToUndo, ("many", number)
            else:
                model.at += -number if way == "undo" else number
                self.assertEqual(call(), model.at)
                return None
        else:
            before = state(desk)
            same = desk.twin() if way == "twin" else desk
            for _ in range(3):
                inner = copy.deepcopy(model)
                if way == "twin":
                    self.step(maker, same, inner, maker.dice.choice(("promise", "forget", "put", "undo", "redo")), programs)
                else:
                    with desk.trial() as same:
                        self.step(maker, same, inner, maker.dice.choice(("promise", "forget", "put", "undo", "redo")), programs)
                    same = desk
                if way == "twin":
                    break
            self.assertEqual(state(desk), before)
            return None
        if expected is not None:
            refused(self, expected[0], call, keeps=expected[1])
            return expected[0].__name__
        self.assertIsNone(call())
        return None


class Trials(unittest.TestCase):
    def worked(self):
        desk = Desk(GIVE)
        desk.promise("a", "reach", 0, ("deed", "use"))
        desk.promise("b", "reach", 1, ("deed", "use"))
        desk.undo()
        return desk

    def test_as_it_was(self):
        desk = self.worked()
        before = state(desk)
        with desk.trial() as same:
            self.assertIs(same, desk)
            same.forget("a")
            same.put(EMPTY)
            self.assertEqual((desk.program, desk.deeds), (EMPTY, ("promise", "forget", "put")))
        self.assertEqual(state(desk), before)
        with desk.trial():
            desk.undo()
            desk.put(FIND)
        self.assertEqual(state(desk), before)
        self.assertEqual(desk.redo(), 2)

    def test_when_it_was_entered(self):
        desk = self.worked()
        trial = desk.trial()
        desk.redo()
        desk.put(GIVE.with_procedure(Procedure("more", (), NOTHING)))
        before = state(desk)
        with trial:
            desk.undo(many=3)
        self.assertEqual(state(desk), before)

    def test_errors_go_on(self):
        desk = self.worked()
        before = state(desk)
        try:
            with desk.trial() as same:
                same.forget("a")
                raise Broken("stop")
        except Broken as error:
            self.assertEqual(str(error), "stop")
        else:
            self.fail("the error did not go on")
        self.assertEqual(state(desk), before)

        def inner():
            with desk.trial():
                desk.forget("a")
                desk.forget("a")

        refused(self, UnknownName, inner, keeps=("name", "a"))
        self.assertEqual(state(desk), before)

    def test_trial_within_trial(self):
        desk = self.worked()
        before = state(desk)
        with desk.trial():
            desk.forget("a")
            middle = state(desk)
            try:
                with desk.trial() as same:
                    same.put(TICK)
                    raise Broken
            except Broken:
                pass
            self.assertEqual(state(desk), middle)
            with desk.trial():
                desk.undo(many=2)
            self.assertEqual(state(desk), middle)
        self.assertEqual(state(desk), before)

    def test_for_one_block(self):
        """A trial that was entered is not entered again; the desk stays as it is then."""
        desk = self.worked()
        trial = desk.trial()
        with trial:
            desk.forget("a")
        desk.redo()
        before = state(desk)

        def again():
            with trial:
                self.fail("the block was entered")

        refused(self, InvalidOperation, again)
        self.assertEqual(state(desk), before)

        def nested():
            with desk.trial() as same:
                other = same.trial()
                with other:
                    desk.forget("a")
                    with other:
                        self.fail("the block was entered")

        refused(self, InvalidOperation, nested)
        self.assertEqual(state(desk), before)

    def test_returns_out_of_blocks(self):
        desk = self.worked()
        before = state(desk)

        def asked():
            with desk.trial() as same:
                same.put(GIVE.with_procedure(Procedure("more", (), NOTHING)))
                return same.program.names

        self.assertEqual(asked(), ("main", "more", "work"))
        self.assertEqual(state(desk), before)

    def test_during(self):
        desk = self.worked()
        before = state(desk)

        def call(same):
            self.assertIs(same, desk)
            same.forget("a")
            same.put(CHANCE)
            return same.deeds

        self.assertEqual(desk.during(call), ("promise", "forget", "put"))
        self.assertEqual(state(desk), before)
        self.assertEqual(desk.during(lambda same: same.during(lambda other: other.undo())), 0)
        self.assertEqual(state(desk), before)
        self.assertIsNone(desk.during(lambda same: None))

        def broken(same):
            same.undo()
            raise Broken

        refused(self, Broken, lambda: desk.during(broken))
        refused(self, UnknownName, lambda: desk.during(lambda same: same.forget("none")), keeps=("name", "none"))
        self.assertEqual(state(desk), before)

    def test_twin(self):
        desk = self.worked()
        other = desk.twin()
        self.assertEqual((other, state(other)), (desk, state(desk)))
        self.assertIsNot(other, desk)
        before = state(desk)
        other.redo()
        other.put(GIVE.with_signals(("more", "need")))
        self.assertEqual(state(desk), before)
        held = state(other)
        desk.undo()
        desk.put(TICK)
        self.assertEqual(state(other), held)
        with desk.trial():
            inner = desk.twin()
            desk.put(FIND)
        self.assertEqual(inner, desk)


class Objects(unittest.TestCase):
    def test_equal_desks(self):
        one, other = Desk(GIVE), Desk(GIVE)
        self.assertTrue(one == other and not one != other)
        one.promise("a", "reach", 0, ("deed", "use"))
        self.assertTrue(one != other and not one == other)
        other.promise("b", "reach", 0, ("deed", "use"))
        self.assertNotEqual(one, other)
        other.promise("a", "reach", 0, ("deed", "use"))
        other.forget("b")
        # What was done to come there does not matter.
        self.assertEqual(one, other)
        self.assertNotEqual(Desk(GIVE), Desk(FIND))
        for value in wrong_values() + [GIVE, None]:
            self.assertIs(Desk(CHANCE) == value, False)
            self.assertIs(Desk(CHANCE) != value, True)

    def test_members_lengths_and_texts(self):
        desk = Desk(crowd("or"))
        self.assertEqual((len(desk), str(desk), "main" in desk), (0, "desk of 8 procedures, 0 promises", False))
        desk = Desk(TICK)
        for name in ("a", "b"):
            desk.promise(name, "reach", 0, ("deed", "tick"))
        self.assertEqual((len(desk), str(desk), "a" in desk, "c" in desk), (2, "desk of 1 procedures, 2 promises", True, False))

    def test_not_iterated_over(self):
        desk = Desk(GIVE)
        desk.promise("a", "reach", 0, ("deed", "use"))
        for call in (iter, list, tuple, sorted):
            refused(self, TypeError, lambda: call(desk))
        refused(self, TypeError, lambda: iter(desk.trial()))

    def test_what_is_kept_is_not_changed(self):
        desk = Desk(GIVE)
        desk.promise("a", "reach", 0, ("deed", "use"))
        found = desk.promises
        found["b"] = 1
        self.assertEqual(desk.promises, {"a": ("reach", 0, ("deed", "use"))})
        self.assertEqual((FLIP, desk.program), (("do", "flip", (1, 0)), GIVE))


if __name__ == "__main__":
    unittest.main()
