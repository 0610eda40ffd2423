"""Stage 17: editions."""

import copy
import re
import unittest

from handedworld.ask.goals import kept, reached
from handedworld.base.procedures import Procedure
from handedworld.base.programs import Program
from handedworld.errors import InvalidGoal, InvalidNumber, InvalidOperation, InvalidProgram, TooMany, UnknownName
from handedworld.same.editions import choice_at, exchanged, modes_lost, needless_terms, without_term
from handedworld.same.entries import is_within
from samples import (
    CHANCE, FIND, GIVE, Maker, SWAP, TICK, TURN, crowd, is_int, is_word, refused, swarm, turning_two, wrong_values,
)
from tellings import goals_of, members, wrong_goals

NOTHING = ("seq",)
UP = ("do", "up", (1, 1))
DOWN = ("do", "down", (0, 0))
FLIP = ("do", "flip", (1, 0))
RUN_X = ("run", "x")


def program(body, *rows, signals=("s", "t"), modes=2):
    return Program(modes, signals, Procedure("main", (), body), *rows)


def number_of(modes):
    return sum(2**mode for mode in modes)


# -- editions told once more, in the text that Python shows for a body --


def begins_of_choices(text):
    """Where the choices begin in the text of a body."""
    return [found.start() for found in re.finditer(r"\('(or|and)', (?=\()", text)]


def choices_again(body):
    """The choices of a body, in the order in which they begin in its text, each read out of the text."""
    text = repr(body)
    found = []
    for begin in begins_of_choices(text):
        deep = 0
        for end in range(begin, len(text)):
            deep += {"(": 1, ")": -1}.get(text[end], 0)
            if deep == 0:
                break
        found.append(eval(text[begin : end + 1]))
    return found


def without_again(body, number, index):
    """The body without a term of a choice, by changing its text."""
    text = repr(body)
    begin = begins_of_choices(text)[number]
    choice = choices_again(body)[number]
    fewer = choice[: index + 1] + choice[index + 2 :]
    return eval(text[:begin] + repr(fewer) + text[begin + len(repr(choice)) :])


def exchanged_again(body, one, other):
    """The body with other calls, by changing its text."""
    return eval(repr(body).replace(f"('call', '{one}'", f"('call', '{other}'"))


DEEP = ("or", ("and", UP, ("or", DOWN)), NOTHING, ("seq", ("and", FLIP)))
EVERYWHERE = (
    "answer", (("s", ("scope", "l", ("or", UP, ("exit", "l")))), ("t", ("and", DOWN, NOTHING))),
    ("case", ("call", "p", ("or", UP, DOWN), ("and", ("raise", "s"), FLIP, ("or", UP))), ("seq", ("or", UP, FLIP), ("and", UP, DOWN))),
)
P = Procedure("p", ("x", "y"), ("or", ("seq", RUN_X, ("run", "y")), ("call", "q", RUN_X)))
Q = Procedure("q", ("x",), ("and", RUN_X, NOTHING))


class Choices(unittest.TestCase):
    def test_examples(self):
        self.assertEqual(
            [choice_at(CHANCE, "main", 1), without_term(CHANCE, "main", 0, 0)["main"].body],
            [("or", ("do", "flip", (1, 0)), ("seq",)), ("seq", ("and", ("seq",)), ("or", ("do", "flip", (1, 0)), ("seq",)))],
        )

    def test_numbers(self):
        """Also in arguments of calls, answers, scopes, cases, and choices themselves."""
        one = program(("call", "p", DEEP, NOTHING), P, Q)
        self.assertEqual(
            [choice_at(one, "main", number) for number in range(4)],
            [DEEP, ("and", UP, ("or", DOWN)), ("or", DOWN), ("and", FLIP)],
        )
        two = program(EVERYWHERE, P, Q)
        self.assertEqual(
            [choice_at(two, "main", number) for number in range(7)],
            [("or", UP, ("exit", "l")), ("and", DOWN, NOTHING), ("or", UP, DOWN), ("and", ("raise", "s"), FLIP, ("or", UP)),
             ("or", UP), ("or", UP, FLIP), ("and", UP, DOWN)],
        )
        for other, name, many in ((one, "main", 4), (two, "main", 7), (two, "p", 1), (FIND, "main", 0), (FIND, "each", 0)):
            self.assertEqual([choice_at(other, name, number) for number in range(many)], choices_again(other[name].body))
            refused(self, InvalidNumber, lambda: choice_at(other, name, many), keeps=("value", many))

    def test_drawn_programs(self):
        maker = Maker(161)
        left_out = kept_whole = 0
        for turn in range(120):
            one = maker.program(depth=5, loops=True)
            before = copy.deepcopy(one)
            for name in one.names:
                choices = choices_again(one[name].body)
                for number, choice in enumerate(choices):
                    self.assertEqual(choice_at(one, name, number), choice)
                    for index in range(len(choice) - 1):
                        if len(choice) == 2:
                            refused(self, InvalidOperation, lambda: without_term(one, name, number, index))
                            kept_whole += 1
                            continue
                        other = without_term(one, name, number, index)
                        self.assertEqual(other[name].body, without_again(one[name].body, number, index))
                        self.assertEqual(other.with_procedure(one[name]), one)
                        self.assertEqual(other[name].parameters, one[name].parameters)
                        left_out += 1
                    refused(self, InvalidNumber, lambda: without_term(one, name, number, len(choice) - 1), keeps=("value", len(choice) - 1))
                refused(self, InvalidNumber, lambda: choice_at(one, name, len(choices)), keeps=("value", len(choices)))
            self.assertEqual(one, before)
        self.assertGreater(min(left_out, kept_whole), 50)

    def test_wrong_arguments(self):
        one = program(EVERYWHERE, P, Q)
        for value in wrong_values():
            if type(value) is not Program:
                refused(self, InvalidProgram, lambda: choice_at(value, None, None))
                refused(self, InvalidProgram, lambda: without_term(value, None, None, None))
            if not is_word(value) or value not in one:
                refused(self, UnknownName, lambda: choice_at(one, value, None), keeps=("name", value))
                refused(self, UnknownName, lambda: without_term(one, value, None, None), keeps=("name", value))
            if not is_int(value) or not 0 <= value < 7:
                refused(self, InvalidNumber, lambda: choice_at(one, "main", value), keeps=("value", value))
                refused(self, InvalidNumber, lambda: without_term(one, "main", value, None), keeps=("value", value))
            if not is_int(value) or not 0 <= value < 3:
                refused(self, InvalidNumber, lambda: without_term(one, "main", 3, value), keeps=("value", value))
        lone = program(("or", NOTHING))
        for value in (-1, True, False, 1, None):
            refused(self, InvalidNumber, lambda: without_term(lone, "main", 0, value), keeps=("value", value))
        refused(self, InvalidOperation, lambda: without_term(lone, "main", 0, 0))
        refused(self, InvalidNumber, lambda: without_term(FIND, "main", 0, 0), keeps=("value", 0))


class Exchanged(unittest.TestCase):
    def test_calls_everywhere(self):
        rows = Procedure("a", (), ("or", NOTHING, ("call", "b"))), Procedure("b", (), ("call", "a"))
        body = ("answer", (("s", ("call", "a")),), ("scope", "l", ("case", ("call", "w", ("call", "a")), ("or", ("call", "b"), ("call", "a")))))
        one = program(body, *rows, Procedure("w", ("x",), RUN_X))
        two = exchanged(one, "a", "b")
        self.assertEqual(
            two["main"].body,
            ("answer", (("s", ("call", "b")),), ("scope", "l", ("case", ("call", "w", ("call", "b")), ("or", ("call", "b"), ("call", "b"))))),
        )
        self.assertEqual((two["a"], two["b"].body, two["w"]), (rows[0], ("call", "b"), one["w"]))
        self.assertEqual([row.named for row in two.procedures], [row.named for row in one.procedures])

    def test_nested_in_their_own_arguments(self):
        one = program(("call", "q", ("call", "q", ("call", "r", UP))), Q, Procedure("r", ("x",), RUN_X))
        self.assertEqual(exchanged(one, "q", "r")["main"].body, ("call", "r", ("call", "r", ("call", "r", UP))))
        self.assertEqual(exchanged(one, "r", "q")["main"].body, ("call", "q", ("call", "q", ("call", "q", UP))))

    def test_equal_names_and_main(self):
        self.assertEqual(exchanged(FIND, "each", "each"), FIND)
        self.assertEqual(exchanged(TICK, "main", "main"), TICK)
        home = GIVE.with_procedure(Procedure("home", (), ("call", "main")))
        self.assertEqual(exchanged(home, "main", "work")["home"].body, ("call", "work"))
        self.assertEqual(exchanged(home, "work", "main")["main"].body, ("answer", (("need", ("do", "give", (1, 1))),), ("call", "main")))

    def test_names_that_are_other_names_too(self):
        """Words, labels, signals and parameters with the name of the procedure stay."""
        body = ("scope", "p", ("answer", (("p", ("exit", "p")),), ("seq", ("do", "p", (0, 1)), ("raise", "p"), ("call", "p", UP))))
        one = program(body, Procedure("p", ("p",), ("run", "p")), Procedure("r", ("x",), RUN_X), signals=("p",))
        two = exchanged(one, "p", "r")
        self.assertEqual(two["main"].body, ("scope", "p", ("answer", (("p", ("exit", "p")),), ("seq", ("do", "p", (0, 1)), ("raise", "p"), ("call", "r", UP)))))
        self.assertEqual(two["p"], one["p"])

    def test_drawn_programs(self):
        maker = Maker(162)
        changed = 0
        for turn in range(100):
            one = maker.program(depth=5, loops=True)
            before = copy.deepcopy(one)
            for name in one.names:
                for other in one.names:
                    if len(one[name].parameters) != len(one[other].parameters):
                        refused(self, InvalidOperation, lambda: exchanged(one, name, other))
                        continue
                    two = exchanged(one, name, other)
                    for row in one.procedures:
                        self.assertEqual(two[row.named].body, exchanged_again(row.body, name, other))
                        self.assertEqual(two[row.named].parameters, row.parameters)
                    self.assertEqual((two.modes, two.signals, two.names), (one.modes, one.signals, one.names))
                    changed += two != one
            self.assertEqual(one, before)
        self.assertGreater(changed, 50)

    def test_wrong_arguments(self):
        for value in wrong_values():
            if type(value) is not Program:
                refused(self, InvalidProgram, lambda: exchanged(value, None, None))
            if not is_word(value) or value not in FIND:
                refused(self, UnknownName, lambda: exchanged(FIND, value, None), keeps=("name", value))
                refused(self, UnknownName, lambda: exchanged(FIND, "main", value), keeps=("name", value))
        refused(self, InvalidOperation, lambda: exchanged(FIND, "main", "each"))
        refused(self, InvalidOperation, lambda: exchanged(FIND, "each", "main"))


class Lost(unittest.TestCase):
    def test_examples(self):
        self.assertEqual(
            [modes_lost(CHANCE, without_term(CHANCE, "main", 1, 0), ("end", 1)), needless_terms(CHANCE, ("end", 1)), needless_terms(CHANCE, ("end", 3))],
            [3, (("main", 0, 0), ("main", 0, 1)), (("main", 0, 0), ("main", 0, 1), ("main", 1, 0), ("main", 1, 1))],
        )

    def test_against_goals(self):
        maker = Maker(163)
        seen = set()
        for turn in range(80):
            modes, signals = (1, 2, 2, 3)[turn % 4], ((), ("hey",), ("ask", "hey"))[turn % 3]
            one, two = [maker.program(depth=4, loops=turn % 2 == 0, modes=modes, signals=signals) for _ in range(2)]
            for goal in goals_of(one):
                for keep, call in ((False, reached), (True, kept)):
                    expected = number_of(members(call(one, goal)) - members(call(two, goal)))
                    self.assertEqual(modes_lost(one, two, goal, keep=keep), expected)
                    self.assertEqual(modes_lost(one, one, goal, keep=keep), 0)
                    seen.add((keep, expected > 0))
            self.assertEqual(modes_lost(one, two, ("end", 0)), modes_lost(one, two, ("end", 0), keep=False))
        self.assertEqual(len(seen), 4)

    def test_reaching_and_keeping(self):
        stop = Program(1, (), Procedure("main", (), ("do", "stop", (None,))))
        self.assertEqual([modes_lost(TICK, stop, ("end", 1), keep=keep) for keep in (False, True)], [0, 1])
        self.assertEqual([modes_lost(stop, TICK, ("end", 1), keep=keep) for keep in (False, True)], [0, 0])

    def test_leaving_out_and_exchanging(self):
        """[17.2]"""
        maker = Maker(164)
        seen = {"or": 0, "and": 0}
        within = 0
        for turn in range(60):
            one = maker.program(depth=4, loops=turn % 3 > 0, modes=(1, 2)[turn % 2])
            for name in one.names:
                for number, choice in enumerate(choices_again(one[name].body)):
                    for index in range(len(choice) - 1 if len(choice) > 2 else 0):
                        other = without_term(one, name, number, index)
                        pair = (other, one) if choice[0] == "or" else (one, other)
                        for goal in goals_of(one):
                            for keep in (False, True):
                                self.assertEqual(modes_lost(*pair, goal, keep=keep), 0)
                                seen[choice[0]] += modes_lost(*pair[::-1], goal, keep=keep) > 0
        self.assertGreater(min(seen.values()), 5)
        rows = Procedure("a", ("x",), ("and", RUN_X, NOTHING)), Procedure("b", ("x",), RUN_X), Procedure("c", ("x",), ("or", RUN_X, NOTHING))
        one = program(("seq", ("call", "a", FLIP), ("call", "b", UP), ("call", "c", DOWN)), *rows)
        for name in "abc":
            for other in "abc":
                for keep in (False, True):
                    if is_within(one, name, other, keep=keep):
                        for good in range(4):
                            self.assertEqual(modes_lost(one, exchanged(one, name, other), ("end", good), keep=keep), 0)
                            within += 1
        self.assertGreater(within, 30)

    def test_wrong_arguments(self):
        for value in wrong_values():
            if type(value) is not Program:
                refused(self, InvalidProgram, lambda: modes_lost(value, None, None, keep=None))
                refused(self, InvalidProgram, lambda: modes_lost(GIVE, value, None, keep=None))
                refused(self, InvalidProgram, lambda: modes_lost(value, GIVE, None, keep=None))
            if type(value) is not bool:
                refused(self, InvalidOperation, lambda: modes_lost(GIVE, GIVE, ("end", 1), keep=value))
        one_mode = Program(1, ("need",), Procedure("main", (), NOTHING))
        for other in (TICK, CHANCE, GIVE.with_signals(("more", "need")), crowd("or"), one_mode):
            refused(self, InvalidOperation, lambda: modes_lost(GIVE, other, None, keep=None))
            refused(self, InvalidOperation, lambda: modes_lost(other, GIVE, None, keep=None))
        for goal in wrong_goals(GIVE):
            refused(self, InvalidGoal, lambda: modes_lost(GIVE, GIVE, goal, keep=None))
        for keep in (0, 1, None, "True"):
            refused(self, InvalidOperation, lambda: modes_lost(swarm("or"), swarm("or"), ("end", 1), keep=keep))

    def test_too_many(self):
        small = Program(3, (), Procedure("main", (), NOTHING))
        for keep in (False, True):
            for pair in ((swarm("or"), small), (small, swarm("or")), (swarm("or"), swarm("and"))):
                refused(self, TooMany, lambda: modes_lost(*pair, ("end", 1), keep=keep), keeps=("limit", 800))
        self.assertEqual(modes_lost(small, crowd("or"), ("end", 1)), 0)
        refused(self, TooMany, lambda: modes_lost(small, crowd("or", last=2), ("end", 1)), keeps=("limit", 800))


class Needless(unittest.TestCase):
    def test_term_by_term(self):
        maker = Maker(165)
        seen = set()
        for turn in range(70):
            one = maker.program(depth=4, loops=turn % 3 > 0, modes=(1, 2, 2, 3)[turn % 4])
            for goal in maker.dice.sample(goals_of(one), 2):
                for keep in (False, True):
                    expected = []
                    for name in one.names:
                        for number, choice in enumerate(choices_again(one[name].body)):
                            for index in range(len(choice) - 1 if len(choice) > 2 else 0):
                                other = without_term(one, name, number, index)
                                pair = (one, other) if choice[0] == "or" else (other, one)
                                needless = modes_lost(*pair, goal, keep=keep) == 0
                                seen.add((choice[0], needless, keep))
                                if needless:
                                    expected.append((name, number, index))
                    found = needless_terms(one, goal, keep=keep)
                    self.assertEqual(found, tuple(expected))
                    self.assertEqual(list(found), sorted(found))
        self.assertEqual(len(seen), 8)

    def test_the_only_terms_are_none(self):
        one = program(("seq", ("or", NOTHING), ("and", NOTHING)))
        for keep in (False, True):
            self.assertEqual(needless_terms(one, ("end", 0), keep=keep), ())
        self.assertEqual(needless_terms(FIND, ("end", 0)), ())

    def test_many_numbers(self):
        """Ten and more choices are in the order of their numbers."""
        one = program(("seq",) + (("or", UP, UP),) * 12, signals=())
        expected = tuple(("main", number, index) for number in range(12) for index in range(2))
        self.assertEqual(needless_terms(one, ("end", 2)), expected)

    def test_keeping(self):
        again = program(("or", NOTHING, ("seq", FLIP, ("call", "main"))), signals=())
        self.assertEqual(needless_terms(again, ("end", 0)), (("main", 0, 0), ("main", 0, 1)))
        self.assertEqual(needless_terms(again, ("end", 0), keep=True), (("main", 0, 0),))

    def test_wrong_arguments(self):
        for value in wrong_values():
            if type(value) is not Program:
                refused(self, InvalidProgram, lambda: needless_terms(value, None, keep=None))
            if type(value) is not bool:
                refused(self, InvalidOperation, lambda: needless_terms(GIVE, ("end", 1), keep=value))
                refused(self, InvalidOperation, lambda: needless_terms(swarm("or"), ("end", 1), keep=value))
        for goal in wrong_goals(GIVE):
            refused(self, InvalidGoal, lambda: needless_terms(GIVE, goal, keep=None))

    def test_too_many(self):
        steps = (TURN, SWAP, ("do", "bar", (0, None, 2)))
        bare = Program(3, (), Procedure("main", (), ("call", "p", NOTHING, NOTHING)), turning_two("p", "seq", steps))
        self.assertEqual(bare.sides, ())
        for keep in (False, True):
            refused(self, TooMany, lambda: needless_terms(swarm("or"), ("end", 1), keep=keep), keeps=("limit", 800))
            refused(self, TooMany, lambda: needless_terms(bare, ("end", 1), keep=keep), keeps=("limit", 800))
        # The program itself has just 800 contexts; without a branch two blocks are not alike any more.
        few = crowd("or")
        call = ("call", "v", ("or", TURN, NOTHING))
        one = few.with_procedure(Procedure("main", (), ("seq", call, call) + few["main"].body[1:-1]))
        self.assertEqual(reached(one, ("end", 0)), 0)
        for number in (0, 1):
            for index in (0, 1):
                refused(self, TooMany, lambda: reached(without_term(one, "main", number, index), ("end", 0)), keeps=("limit", 800))
        refused(self, TooMany, lambda: needless_terms(one, ("end", 0)), keeps=("limit", 800))


if __name__ == "__main__":
    unittest.main()
