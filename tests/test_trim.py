"""Stage 20: without what is not met."""

import copy
import unittest

from handedworld.ask.goals import kept, reached
from handedworld.base.procedures import Procedure
from handedworld.base.programs import Program
from handedworld.errors import InvalidProgram, TooMany, UnknownName
from handedworld.runs.runs import each_run
from handedworld.unused.met import met_places
from handedworld.unused.places import places, term_at
from handedworld.unused.trim import idle_answers, idle_parameters, idle_procedures, idle_scopes, is_idle, trimmed
from footprints import footprints, stood_at
from samples import CHANCE, FIND, GIVE, Maker, RUN_X, crowd, is_word, refused, swarm, wrong_values
from tellings import goals_of

NOTHING = ("seq",)
UP = ("do", "up", (1, 1))
DOWN = ("do", "down", (0, 0))
BAR = ("do", "bar", (None, None))
STOP = ("do", "never", (None, None))
TWO = Procedure("two", ("x", "y"), ("scope", "l", ("run", "x")))
HELP = Procedure("main", (), ("answer", (("s", ("do", "help", (0,))),), ("call", "two", ("do", "go", (0,)), ("raise", "s"))))
SPARE = Program(1, ("s",), HELP, TWO)
TELLS = (idle_parameters, idle_answers, idle_scopes, idle_procedures)


def program(body, *rows, signals=("s", "t"), modes=2):
    return Program(modes, signals, Procedure("main", (), body), *rows)


# -- [20.1] and [20.2] told once more, one after the other, on trees --


class Tree:
    """A term with the terms in it, its place, and whether it is met."""

    def __init__(self, one, place, met):
        term = stood_at(one, place)
        self.word, self.met, self.place = term[0], place in met, place
        self.names = [pair[0] for pair in term[1]] if term[0] == "answer" else list(term[1:2]) if term[0] in ("call", "scope", "run", "exit", "raise") else []
        self.leaf = term
        many = {"answer": len(self.names) + 1, "call": len(term) - 2, "scope": 1}.get(term[0], len(term) - 1 if term[0] in ("seq", "or", "and", "case") else 0)
        self.parts = [Tree(one, (place[0], place[1] + (index,)), met) for index in range(many)]

    def all(self):
        return [self] + [other for part in self.parts for other in part.all()]

    def term(self):
        parts = [part.term() for part in self.parts]
        if self.word == "answer":
            return ("answer", tuple(zip(self.names, parts)), parts[-1])
        if self.word in ("call", "scope"):
            return (self.word, self.names[0], *parts)
        return (self.word, *parts) if self.word in ("seq", "or", "and", "case") else self.leaf


def told(one):
    """What is idle, by the four rules, and the trees of all bodies."""
    met = set(met_places(one))
    trees = {name: Tree(one, (name, ()), met) for name in one.names}
    inputs, helps, scopes = [], [], []
    for name in one.names:
        nodes = trees[name].all()
        for x in one[name].parameters:
            if not any(node.word == "run" and node.names == [x] and node.met for node in nodes):
                inputs.append((name, x))
        for node in nodes:
            if node.word == "answer":
                helps += [(node.place, signal) for signal, part in zip(node.names, node.parts) if not part.met]
            if node.word == "scope" and not any(other.word == "exit" and other.names == node.names and other.met for other in nodes):
                scopes.append(node.place)
    return tuple(sorted(inputs)), tuple(sorted(helps)), tuple(sorted(scopes)), tuple(name for name in one.names if not trees[name].met), trees


def trimmed_again(one):
    """The trimmed program: each of the four kinds is taken out of the trees in turn, then what is not met is barred."""
    inputs, helps, scopes, procedures, trees = told(one)

    def without_inputs(tree):
        if tree.word == "call":
            named = one[tree.names[0]].parameters
            tree.parts = [part for x, part in zip(named, tree.parts) if (tree.names[0], x) not in inputs]
        tree.parts = [without_inputs(part) for part in tree.parts]
        return tree

    def without_helps(tree):
        tree.parts = [without_helps(part) for part in tree.parts]
        if tree.word == "answer":
            rows = [row for row in zip(tree.names, tree.parts) if (tree.place, row[0]) not in helps]
            tree.names, tree.parts = [row[0] for row in rows], [row[1] for row in rows] + tree.parts[-1:]
            return tree if rows else tree.parts[-1]
        return tree

    def without_scopes(tree):
        tree.parts = [without_scopes(part) for part in tree.parts]
        return tree.parts[0] if tree.word == "scope" and tree.place in scopes else tree

    def barred(tree):
        if not tree.met:
            tree.word, tree.leaf, tree.parts = "do", ("do", "never", (None,) * one.modes), []
        tree.parts = [barred(part) for part in tree.parts]
        return tree

    rows = []
    for row in one.procedures:
        if row.named not in procedures:
            tree = barred(without_scopes(without_helps(without_inputs(trees[row.named]))))
            rows.append(Procedure(row.named, tuple(x for x in row.parameters if (row.named, x) not in inputs), tree.term()))
    return Program(one.modes, one.signals, *rows)


class Rules(unittest.TestCase):
    def test_examples(self):
        self.assertEqual(
            [idle_parameters(SPARE), idle_answers(SPARE), idle_scopes(SPARE), idle_procedures(SPARE), is_idle(FIND, "each", "x")],
            [(("two", "y"),), ((("main", ()), "s"),), (("two", ()),), (), False],
        )
        self.assertEqual(
            [trimmed(SPARE)["main"].body, trimmed(SPARE)["two"].parameters, trimmed(SPARE)["two"].body, trimmed(FIND)["each"].body],
            [("call", "two", ("do", "go", (0,))), ("x",), ("run", "x"), ("seq", ("run", "x"), ("do", "never", (None, None)))],
        )

    def becomes(self, one, body, name="main", parameters=()):
        found = trimmed(one)
        self.assertEqual((found[name].body, found[name].parameters), (body, parameters))
        self.assertEqual((found.modes, found.signals), (one.modes, one.signals))
        self.assertEqual(found, trimmed_again(one))
        return found

    def test_parameters(self):
        rows = Procedure("p", ("x", "y", "z"), ("seq", ("run", "z"), ("call", "q", RUN_X))), Procedure("q", ("x",), UP)
        one = program(("call", "p", UP, ("call", "q", DOWN), ("call", "q", DOWN)), *rows)
        self.assertEqual(idle_parameters(one), (("p", "x"), ("p", "y"), ("q", "x")))
        self.assertEqual([is_idle(one, "p", x) for x in "xyz"] + [is_idle(one, "q", "x")], [True, True, False, True])
        found = self.becomes(one, ("call", "p", ("call", "q")))
        self.assertEqual((found["p"].parameters, found["p"].body), (("z",), ("seq", ("run", "z"), ("call", "q"))))
        self.assertEqual((found["q"].parameters, found["q"].body), ((), UP))

    def test_parameters_are_ascending(self):
        rows = Procedure("p", ("z", "a", "m"), NOTHING), Procedure("b", ("y",), NOTHING)
        self.assertEqual(idle_parameters(program(NOTHING, *rows)), (("b", "y"), ("p", "a"), ("p", "m"), ("p", "z")))

    def test_blocks_that_are_not_run_by_this_call(self):
        """The parameter is run elsewhere; what this call hands for it is barred."""
        p = Procedure("p", ("x",), ("case", RUN_X, BAR))
        one = program(("seq", DOWN, ("call", "p", UP), ("call", "p", ("scope", "l", ("exit", "l")))), p)
        self.assertEqual((idle_parameters(one), idle_scopes(one)), ((), (("main", (2, 0)),)))
        self.becomes(one, ("seq", DOWN, ("call", "p", UP), ("call", "p", STOP)))

    def test_answers(self):
        both = ("answer", (("s", UP), ("t", DOWN)), ("seq", ("raise", "t"), BAR, ("raise", "s")))
        self.assertEqual(idle_answers(program(both)), ((("main", ()), "s"),))
        self.becomes(program(both), ("answer", (("t", DOWN),), ("seq", ("raise", "t"), BAR, STOP)))
        self.assertEqual(idle_answers(program(("answer", (("s", UP), ("t", DOWN)), UP))), ((("main", ()), "s"), (("main", ()), "t")))
        self.becomes(program(("answer", (("s", UP), ("t", DOWN)), ("seq", UP))), ("seq", UP))
        inner = ("answer", (("s", ("answer", (("t", UP),), DOWN)),), ("raise", "s"))
        self.assertEqual(idle_answers(program(inner)), ((("main", (0,)), "t"),))
        self.becomes(program(inner), ("answer", (("s", DOWN),), ("raise", "s")))

    def test_answers_by_calls(self):
        """Raised in a procedure that is called there, or by what is handed."""
        rows = Procedure("ask", (), ("raise", "s")), Procedure("hand", ("x",), ("answer", (("s", UP),), RUN_X))
        one = program(("answer", (("s", DOWN),), ("call", "hand", ("raise", "s"))), *rows)
        self.assertEqual(idle_answers(one), ((("hand", ()), "s"),))
        found = self.becomes(one, ("answer", (("s", DOWN),), ("call", "hand", ("raise", "s"))))
        self.assertEqual((found["hand"].body, "ask" in found), (RUN_X, False))
        two = one.with_procedure(Procedure("hand", ("x",), ("answer", (("s", UP),), ("seq", RUN_X, ("call", "ask")))))
        self.assertEqual((idle_answers(two), idle_procedures(two)), ((), ()))
        self.assertEqual(trimmed(two), two)

    def test_scopes(self):
        out = Procedure("out", ("x",), ("scope", "m", ("seq", RUN_X, ("exit", "m"), ("exit", "m"))))
        one = program(("scope", "l", ("scope", "k", ("call", "out", ("case", ("exit", "l"), ("seq", UP))))), out)
        self.assertEqual(idle_scopes(one), (("main", (0,)),))
        found = self.becomes(one, ("scope", "l", ("call", "out", ("case", ("exit", "l"), ("seq", UP)))))
        self.assertEqual(found["out"].body, ("scope", "m", ("seq", RUN_X, ("exit", "m"), STOP)))
        late = program(("scope", "l", ("seq", BAR, ("exit", "l"))))
        self.assertEqual(idle_scopes(late), (("main", ()),))
        self.becomes(late, ("seq", BAR, STOP))

    def test_procedures(self):
        rows = Procedure("a", (), ("call", "b")), Procedure("b", (), ("call", "a")), Procedure("c", ("x",), ("scope", "l", ("answer", (("s", RUN_X),), UP)))
        one = program(("seq", BAR, ("call", "a")), *rows)
        self.assertEqual(idle_procedures(one), ("a", "b", "c"))
        self.assertEqual(self.becomes(one, ("seq", BAR, STOP)).names, ("main",))
        # What is in an idle procedure is told, too.
        self.assertEqual((idle_parameters(one), idle_answers(one), idle_scopes(one)), ((("c", "x"),), ((("c", (0,)), "s"),), (("c", ()),)))

    def test_terms_that_are_not_met(self):
        deep = ("seq", BAR, ("seq", ("or", UP, DOWN), ("scope", "l", ("exit", "l"))))
        self.becomes(program(deep), ("seq", BAR, STOP))
        self.becomes(program(("case", ("seq", DOWN, ("case", UP, DOWN)), UP)), ("case", ("seq", DOWN, ("case", UP, STOP)), UP))
        # A scope and an answer that are not met: their terms come in their places, and are not met either.
        self.becomes(program(("seq", BAR, ("scope", "l", ("answer", (("s", UP),), DOWN)), ("answer", (("t", UP),), ("raise", "t")))), ("seq", BAR, STOP, STOP))
        three = program(("seq", ("do", "bar", (None, None, None)), NOTHING), modes=3)
        self.becomes(three, ("seq", ("do", "bar", (None, None, None)), ("do", "never", (None, None, None))))

    def test_all_rules_at_once(self):
        body = (
            "scope", "l",
            ("answer", (("s", ("scope", "k", ("seq", UP))), ("t", ("exit", "l"))),
             ("call", "p", ("seq", ("raise", "s"), BAR, ("exit", "l")), ("raise", "t"))),
        )
        rows = Procedure("p", ("x", "y"), ("answer", (("t", ("call", "q", NOTHING)),), ("seq", RUN_X, ("run", "y")))), Procedure("q", ("x",), RUN_X)
        one = program(body, *rows)
        self.assertEqual([tell(one) for tell in TELLS], [
            (("p", "y"), ("q", "x")), ((("main", (0,)), "t"), (("p", ()), "t")), (("main", ()), ("main", (0, 0))), ("q",),
        ])
        found = self.becomes(one, ("answer", (("s", ("seq", UP)),), ("call", "p", ("seq", ("raise", "s"), BAR, STOP))))
        self.assertEqual((found["p"].parameters, found["p"].body, found.names), (("x",), ("seq", RUN_X, STOP), ("main", "p")))

    def test_deeds_with_the_word_never(self):
        one = program(("seq", ("do", "never", (1, 0)), ("do", "never", (None, None)), UP))
        self.becomes(one, ("seq", ("do", "never", (1, 0)), STOP, STOP))


class Drawn(unittest.TestCase):
    def drawn(self, seed, many, depth=5):
        maker = Maker(seed)
        for turn in range(many):
            yield maker, maker.program(depth=depth, loops=turn % 3 > 0, modes=(1, 2, 2, 3)[turn % 4])

    def test_told_once_more(self):
        seen = [0, 0, 0, 0]
        for _, one in self.drawn(201, 200):
            before = copy.deepcopy(one)
            expected = told(one)[:4]
            self.assertEqual(tuple(tell(one) for tell in TELLS), expected)
            for at, rows in enumerate(expected):
                self.assertEqual(list(rows), sorted(rows))
                seen[at] += len(rows)
            for name in one.names:
                for x in one[name].parameters:
                    self.assertIs(is_idle(one, name, x), (name, x) in expected[0])
            self.assertEqual(trimmed(one), trimmed_again(one))
            self.assertEqual([row.named for row in trimmed(one).procedures], [row.named for row in one.procedures if row.named not in expected[3]])
            self.assertEqual(one, before)
        self.assertGreater(min(seen), 20)

    def test_by_footprints(self):
        """Where all runs were gone through: places that are not come to are idle."""
        many = 0
        for _, one in self.drawn(202, 100):
            trodden, is_all = footprints(one)
            if is_all:
                many += 1
                self.assertEqual(idle_procedures(one), tuple(name for name in one.names if (name, ()) not in trodden))
                for name in one.names:
                    for x in one[name].parameters:
                        runs = [place for place in trodden if place[0] == name and stood_at(one, place) == ("run", x)]
                        self.assertIs(is_idle(one, name, x), not runs)
        self.assertGreater(many, 50)

    def test_trimmed_already(self):
        """[20.3]"""
        barred = 0
        for _, one in self.drawn(203, 200):
            other = trimmed(one)
            self.assertEqual(trimmed(other), other)
            met = met_places(other)
            for place in places(other):
                if place not in met:
                    self.assertEqual(term_at(other, place), ("do", "never", (None,) * one.modes))
                    barred += 1
            self.assertEqual([tell(other) for tell in TELLS], [(), (), (), ()])
        self.assertGreater(barred, 50)

    def test_runs(self):
        """The same choices lead the same way."""
        many = 0
        for _, one in self.drawn(204, 120):
            other = trimmed(one)
            if other == one:
                continue
            for start in range(one.modes):
                rows = [list(each_run(two, start, 3)) for two in (one, other)]
                if any(run.state == "far" for run in rows[0] + rows[1]):
                    continue
                for pair in zip(*rows, strict=True):
                    seen = [(run.choices, run.state, run.mode, run.words, run.modes, run.side, run.options, run.signal) for run in pair]
                    self.assertEqual(seen[0], seen[1])
                    self.assertLessEqual(pair[1].steps, pair[0].steps)
                    many += 1
        self.assertGreater(many, 300)

    def test_goals(self):
        for maker, one in self.drawn(205, 80, depth=4):
            other = trimmed(one)
            for goal in goals_of(one):
                self.assertEqual((reached(one, goal), kept(one, goal)), (reached(other, goal), kept(other, goal)))

    def test_what_is_not_true(self):
        """[20.4]"""
        # Two places are met, by different runs.
        one = program(("or", UP, DOWN))
        self.assertEqual(trimmed(one), one)
        # Idle in one program and not in another one; an answer that nobody raises outside of answers to it, which is met.
        p = Procedure("p", ("x",), ("case", RUN_X, NOTHING))
        self.assertEqual([is_idle(program(("seq", step, ("call", "p", NOTHING)), p), "p", "x") for step in (UP, DOWN)], [True, False])
        again = program(("answer", (("s", UP),), ("answer", (("s", ("raise", "s")),), ("raise", "s"))))
        self.assertEqual(idle_answers(again), ())
        # Without each of both procedures alone the goal is reached, without both it is not.
        rows = Procedure("a", (), UP), Procedure("b", (), UP)
        for left_out, expected in (((), 3), (("a",), 3), (("b",), 3), (("a", "b"), 0)):
            calls = [BAR if name in left_out else ("call", name) for name in ("a", "b")]
            self.assertEqual(reached(program(("or", *calls), *rows), ("end", 2)), expected)
        # A scope that is left by runs that all go on for ever.
        ever = program(("seq", ("scope", "l", ("exit", "l")), ("call", "main")))
        self.assertEqual((idle_scopes(ever), reached(ever, ("end", 3))), ((), 0))


class Wrong(unittest.TestCase):
    def test_wrong_arguments(self):
        for value in wrong_values():
            if type(value) is not Program:
                refused(self, InvalidProgram, lambda: is_idle(value, None, None))
                for call in TELLS + (trimmed,):
                    refused(self, InvalidProgram, lambda: call(value))
            if not is_word(value) or value not in FIND:
                refused(self, UnknownName, lambda: is_idle(FIND, value, value), keeps=("name", value))
            if value != "x" or type(value) is not str:
                refused(self, UnknownName, lambda: is_idle(FIND, "each", value), keeps=("name", value))
            refused(self, UnknownName, lambda: is_idle(FIND, "main", value), keeps=("name", value))
        refused(self, UnknownName, lambda: is_idle(FIND, "main", "x"), keeps=("name", "x"))
        refused(self, UnknownName, lambda: is_idle(FIND, "x", "each"), keeps=("name", "x"))
        refused(self, UnknownName, lambda: is_idle(swarm("or"), "p", "z"), keeps=("name", "z"))

    def test_too_many(self):
        for call in TELLS + (trimmed, lambda one: is_idle(one, "p", "x")):
            refused(self, TooMany, lambda: call(swarm("and")), keeps=("limit", 800))
        refused(self, TooMany, lambda: trimmed(crowd("and", last=2)), keeps=("limit", 800))
        self.assertEqual(trimmed(crowd("and")), crowd("and"))

    def test_programs_of_the_document(self):
        self.assertEqual(trimmed(CHANCE), CHANCE)
        self.assertEqual(trimmed(GIVE), GIVE)


if __name__ == "__main__":
    unittest.main()
