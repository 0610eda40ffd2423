"""Stage 10: duels."""

import copy
import unittest

from handedworld.ask.duels import Duel
from handedworld.ask.goals import is_keep_paper, is_reach_paper, keep_paper, reach_paper
from handedworld.base.procedures import Procedure
from handedworld.base.programs import Program
from handedworld.errors import InvalidMeaning, InvalidOperation
from handedworld.reckon.books import reach_book
from handedworld.runs.runs import Run
from samples import BIG, CHANCE, FIND, FLIP, GIVE, Maker, RUN_X, TICK, crowd, is_int, refused, wrong_values
from tellings import changed_paper, goals_of, members, refused_questions, shows

MAIN = ("main", (), ())
NOTHING = ("seq",)
UP = ("do", "up", (1, 1))
DOWN = ("do", "down", (0, 0))
BAR = ("do", "bar", (None, None))
TO_UP, TO_DOWN, NEVER, ALWAYS, SAME = (0, 0, 3, 3), (0, 3, 0, 3), (0, 0, 0, 0), (3, 3, 3, 3), (0, 1, 2, 3)
P, Q = ("p", (), ()), ("q", (), ())
GIVEN = ("work", (), (TO_UP,))
PAPER = ("climb", ({GIVEN: TO_UP}, {MAIN: TO_UP}))


def program(body, *rows, signals=(), modes=2):
    return Program(modes, signals, Procedure("main", (), body), *rows)


def pair(body, deed, *rows, signals=()):
    """A program whose two procedures p and q do the same."""
    return program(body, Procedure("p", (), deed), Procedure("q", (), deed), *rows, signals=signals)


def run_of(duel):
    """The run that goes the same way."""
    until = duel.goal[1] if duel.goal[0] == "deed" else None
    return Run.of(duel.program, duel.start, duel.choices, until=until)


def state_of(run, goal):
    """The state of a duel about a goal that goes the same way as a run."""
    if run.state == "done" or run.state == "asking" and goal == ("signal", run.signal):
        return "came"
    if run.state == "ended" and goal[0] == "end" and run.mode in members(goal[1]):
        return "came"
    return run.state


def each_duel(one, mode, goal, paper, most, limit=60):
    """The duels with all answers of the other side up to so many."""
    ahead, many = [()], 0
    while ahead and many < limit:
        duel = Duel.of(one, mode, goal, paper, ahead.pop())
        many += 1
        yield duel
        if duel.state == "waiting" and len(duel.answers) < most:
            ahead += [duel.answers + (index,) for index in range(duel.options)]


class Choices(unittest.TestCase):
    """Which term is chosen, where both would do and the paper claims one of them."""

    CHOICE = ("call", "p"), ("call", "q")

    def chosen(self, one, goal, kind, value, index, *, start=0):
        duel = Duel(one, start, goal, (kind, value))
        self.assertEqual(duel.choices[-1], index)
        return duel

    def test_by_climbs(self):
        one = pair(("or",) + self.CHOICE, UP)
        for row, index in ((P, 0), (Q, 1)):
            duel = self.chosen(one, ("end", 2), "climb", ({row: TO_UP}, {MAIN: TO_UP}), index)
            self.assertEqual((duel.state, duel.mode, duel.words, duel.steps), ("came", 1, ("up",), 3))
            self.chosen(one, ("end", 2), "climb", ({}, {row: TO_UP}, {MAIN: TO_UP}), index)
            self.chosen(one, ("end", 2), "climb", ({P: TO_UP, Q: TO_UP}, {row: TO_UP}, {MAIN: TO_UP}), index)
            self.chosen(one, ("end", 2), "climb", ({row: (0, 0, 1, 0)}, {MAIN: (0, 0, 1, 0)}), index)

    def test_by_supported_books(self):
        one = pair(("or",) + self.CHOICE, UP)
        for row, index in ((P, 0), (Q, 1)):
            self.chosen(one, ("end", 2), "supported", {row: TO_UP, MAIN: TO_UP}, index)
        forever = pair(("or",) + self.CHOICE, ("call", "main"))
        for row, index in ((P, 0), (Q, 1)):
            duel = self.chosen(forever, ("end", 0), "supported", {row: ALWAYS, MAIN: ALWAYS}, index)
            self.assertEqual((duel.state, set(duel.choices), duel.steps), ("far", {index}, 1000))

    def test_by_closed_books(self):
        one = pair(("and",) + self.CHOICE, DOWN)
        for row, other, index in ((P, Q, 0), (Q, P, 1)):
            duel = self.chosen(one, ("end", 2), "closed", {row: TO_DOWN, other: ALWAYS, MAIN: TO_DOWN}, index)
            self.assertEqual((duel.state, duel.mode, duel.steps), ("ended", 0, 3))
            self.chosen(one, ("end", 2), "closed", {row: TO_DOWN, other: (0, 3, 1, 3), MAIN: TO_DOWN}, index)

    def test_by_falls(self):
        one = pair(("and",) + self.CHOICE, DOWN)
        for row, index in ((P, 0), (Q, 1)):
            self.chosen(one, ("end", 2), "fall", ({row: TO_DOWN}, {MAIN: TO_DOWN}), index)
            self.chosen(one, ("end", 2), "fall", ({row: TO_DOWN}, {MAIN: (3, 3, 2, 3)}), index)

    def test_a_block_is_claimed_by_the_book_by_which_it_was_handed(self):
        once = Procedure("once", ("x",), RUN_X)
        one = pair(("call", "once", ("or",) + self.CHOICE), UP, once)
        handed = ("once", (TO_UP,), ())
        for row, index in ((P, 0), (Q, 1)):
            duel = self.chosen(one, ("end", 2), "climb", ({row: TO_UP, handed: TO_UP}, {MAIN: TO_UP}), index)
            self.assertEqual((duel.state, duel.steps), ("came", 5))
        two = pair(("call", "once", ("and",) + self.CHOICE), DOWN, once)
        handed = ("once", (TO_DOWN,), ())
        for row, index in ((P, 0), (Q, 1)):
            value = ({row: TO_DOWN, handed: TO_DOWN}, {MAIN: TO_DOWN})
            self.chosen(two, ("end", 2), "fall", value, index)

    def test_a_block_within_blocks(self):
        once = Procedure("once", ("x",), RUN_X)
        twice = Procedure("twice", ("x",), ("call", "once", ("seq", RUN_X, NOTHING)))
        one = pair(("call", "twice", ("or",) + self.CHOICE), UP, once, twice)
        first, second = ("twice", (TO_UP,), ()), ("once", (TO_UP,), ())
        for row, index in ((P, 0), (Q, 1)):
            value = ({second: TO_UP}, {first: TO_UP, row: TO_UP}, {MAIN: TO_UP})
            self.assertEqual(self.chosen(one, ("end", 2), "climb", value, index).state, "came")

    def test_an_answer_is_claimed_by_the_book_by_which_it_was_handed(self):
        ask = Procedure("ask", (), ("raise", "s"))
        one = pair(("answer", (("s", ("or",) + self.CHOICE),), ("call", "ask")), UP, ask, signals=("s",))
        asked = ("ask", (), (TO_UP,))
        for row, index in ((P, 0), (Q, 1)):
            value = ({row: TO_UP, asked: TO_UP}, {MAIN: TO_UP})
            self.assertEqual(self.chosen(one, ("end", 2), "climb", value, index).state, "came")

    def test_what_is_claimed_behind(self):
        """The set behind a choice tells what is chosen there, for each place in a sequence and for exits."""
        one = program(("seq", ("or", UP, DOWN), ("or", NOTHING, FLIP)))
        goal = ("end", 2)
        up = reach_paper(one, 0, goal)
        duel = Duel(one, 0, goal, up)
        self.assertEqual((duel.state, duel.mode), ("came", 1))
        turns = program(("scope", "out", ("seq", ("scope", "in", ("or", ("exit", "in"), ("seq", FLIP, ("exit", "out")))), BAR)))
        for start in (0, 1):
            for good in (1, 2):
                paper = reach_paper(turns, start, ("end", good))
                duel = Duel(turns, start, ("end", good), paper)
                self.assertEqual(duel.state, "came" if paper[0] == "climb" else "waiting")
                if paper[0] == "climb":
                    self.assertEqual((duel.choices, duel.words), ((1,), ("flip",)))

    def test_choices_by_the_mode(self):
        one = program(("seq", ("and", FLIP, NOTHING), ("case", ("or", UP, DOWN), ("or", DOWN, UP))))
        for kind, paper in (("climb", reach_paper(one, 0, ("end", 2))), ("supported", keep_paper(one, 0, ("end", 2)))):
            self.assertEqual(paper[0], kind)
            self.assertEqual(Duel(one, 0, ("end", 2), paper, 0).choices, (0, 1))
            self.assertEqual(Duel(one, 0, ("end", 2), paper, 1).choices, (1, 0))
            self.assertEqual(Duel(one, 0, ("end", 2), paper, 1).words, ("up",))


class Stops(unittest.TestCase):
    def test_deeds(self):
        one = program(("seq", UP, ("and", DOWN, ("seq", DOWN, UP)), ("call", "main")))
        duel = Duel(one, 0, ("deed", "down"), reach_paper(one, 0, ("deed", "down")))
        self.assertEqual((duel.state, duel.options, duel.words, duel.steps), ("waiting", 2, ("up",), 2))
        duel = duel.answered(1)
        self.assertEqual((duel.state, duel.options, duel.words, duel.steps, duel.mode), ("came", 0, ("up", "down"), 5, 0))
        refused(self, InvalidOperation, lambda: duel.answered(0))

    def test_signals(self):
        ask = Procedure("ask", (), ("or", ("raise", "a"), ("raise", "b")))
        one = program(("call", "ask"), ask, signals=("a", "b"))
        for signal, index in (("a", 0), ("b", 1)):
            goal = ("signal", signal)
            duel = Duel(one, 0, goal, reach_paper(one, 0, goal))
            self.assertEqual((duel.state, duel.choices, duel.steps), ("came", (index,), 3))
        duel = Duel(one, 0, ("end", 3), reach_paper(one, 0, ("end", 3)), 0)
        self.assertEqual((duel.state, duel.choices, duel.steps, duel.mode), ("asking", (0,), 3, 0))
        answered = one.with_procedure(Procedure("main", (), ("answer", (("a", BAR),), ("call", "ask"))))
        self.assertEqual(Duel(answered, 1, ("signal", "b"), reach_paper(answered, 1, ("signal", "b"))).choices, (1,))
        duel = Duel(answered, 1, ("signal", "a"), reach_paper(answered, 1, ("signal", "a")), 0)
        self.assertEqual((duel.state, duel.mode, duel.steps), ("stuck", 1, 5))

    def test_ends(self):
        paper = reach_paper(CHANCE, 0, ("end", 0))
        self.assertEqual([Duel(CHANCE, 0, ("end", 0), paper).state, paper[0]], ["waiting", "closed"])
        duel = Duel(CHANCE, 0, ("end", 0), paper, 1)
        self.assertEqual((duel.state, duel.choices, duel.mode), ("ended", (0, 1), 1))

    def test_far(self):
        ring = Program(1, (), Procedure("main", (), ("and", ("call", "main"))))
        paper = keep_paper(ring, 0, ("end", 0))
        self.assertEqual(paper[0], "supported")
        for many, state in ((0, "waiting"), (499, "waiting"), (500, "far")):
            duel = Duel.of(ring, 0, ("end", 0), paper, (0,) * many)
            self.assertEqual((duel.state, duel.steps, len(duel), duel.options), (state, 2 * many, many, int(many < 500)))
        refused(self, InvalidOperation, lambda: Duel.of(ring, 0, ("end", 0), paper, (0,) * 501))
        mine = Program(1, (), Procedure("main", (), ("or", ("call", "main"))))
        duel = Duel(mine, 0, ("end", 0), keep_paper(mine, 0, ("end", 0)))
        self.assertEqual((duel.state, duel.steps, duel.choices), ("far", 1000, (0,) * 500))
        duel = Duel(TICK, 0, ("end", 0), keep_paper(TICK, 0, ("end", 0)))
        self.assertEqual((duel.state, duel.steps, duel.words[:2], len(duel.words)), ("far", 1000, ("tick", "tick"), 333))
        last = Program(1, (), Procedure("main", (), ("seq", ("or", ("call", "tick"), NOTHING), ("call", "main"))),
                       Procedure("tick", (), ("do", "tick", (0,))))
        self.assertEqual(Duel(last, 0, ("deed", "tick"), keep_paper(last, 0, ("deed", "tick"))).state, "came")

    def test_one_term_alone_is_a_choice(self):
        one = program(("seq", ("and", UP), ("or", DOWN)))
        paper = reach_paper(one, 0, ("end", 1))
        self.assertEqual([Duel(one, 0, ("end", 1), paper).state, Duel(one, 0, ("end", 1), paper).options], ["waiting", 1])
        self.assertEqual(Duel(one, 0, ("end", 1), paper, 0).choices, (0, 0))


class Promise(unittest.TestCase):
    """[10.2], for papers that are told and for others that are right."""

    def check(self, one, mode, goal, paper, most=4):
        far = 0
        for duel in each_duel(one, mode, goal, paper, most):
            run = run_of(duel)
            self.assertEqual(state_of(run, goal), duel.state)
            self.assertEqual((run.words, run.steps, run.mode, run.options), (duel.words, duel.steps, duel.mode, duel.options))
            own = "or" if paper[0] in ("climb", "supported") else "and"
            self.assertEqual(len(duel), len(duel.choices))
            if duel.state == "waiting":
                self.assertNotEqual(run.side, own)
            if paper[0] in ("climb", "supported"):
                self.assertIn(duel.state, ("came", "waiting", "far"))
            else:
                self.assertNotEqual(duel.state, "came")
            far += duel.state == "far" and paper[0] in ("climb", "fall")
            yield duel.state
        self.assertEqual(far, 0)

    def test_told_papers(self):
        maker = Maker(121)
        seen = {}
        for turn in range(150):
            one = maker.program(depth=(4, 5)[turn % 2], loops=turn % 5 > 0)
            goal = maker.dice.choice(goals_of(one))
            for mode in range(one.modes):
                for paper in (reach_paper(one, mode, goal), keep_paper(one, mode, goal)):
                    for state in self.check(one, mode, goal, paper):
                        seen[(paper[0], state)] = seen.get((paper[0], state), 0) + 1
        for key in (("climb", "came"), ("supported", "came"), ("supported", "far"), ("closed", "ended"), ("closed", "far"),
                    ("closed", "stuck"), ("fall", "ended"), ("fall", "stuck"), ("fall", "waiting"), ("climb", "waiting")):
            self.assertGreater(seen.get(key, 0), 3, key)

    def test_other_papers(self):
        maker = Maker(122)
        tried = 0
        for turn in range(120):
            one = maker.program(depth=4, loops=turn % 5 > 0)
            goal = maker.dice.choice(goals_of(one))
            mode = maker.dice.randrange(one.modes)
            for kind, value in (reach_paper(one, mode, goal), keep_paper(one, mode, goal)):
                for _ in range(6):
                    other = changed_paper(one, changed_paper(one, value, maker.dice), maker.dice)
                    if shows(kind, one, mode, goal, other):
                        tried += len(list(self.check(one, mode, goal, (kind, other), 3)))
                    else:
                        refused(self, InvalidMeaning, lambda: Duel(one, mode, goal, (kind, other)))
        self.assertGreater(tried, 150)

    def test_in_large_programs(self):
        for side in ("or", "and"):
            one = crowd(side)
            for mode in range(3):
                for paper in (reach_paper(one, mode, ("end", 1)), keep_paper(one, mode, ("end", 1))):
                    self.assertGreater(len(list(self.check(one, mode, ("end", 1), paper, 1))), 0)

    def test_answers_left_or_wrong(self):
        maker = Maker(123)
        tried = 0
        for turn in range(60):
            one = maker.program(depth=4, loops=True)
            goal = maker.dice.choice(goals_of(one))
            paper = reach_paper(one, 0, goal)
            for duel in each_duel(one, 0, goal, paper, 2):
                if duel.state == "waiting":
                    for index in (duel.options, duel.options + 1, BIG):
                        refused(self, InvalidOperation, lambda: duel.answered(index))
                    refused(self, InvalidOperation, lambda: duel.answered(0, duel.options + 9))
                    tried += 1
                else:
                    refused(self, InvalidOperation, lambda: duel.answered(0))
        self.assertGreater(tried, 15)


class Duels(unittest.TestCase):
    def test_properties(self):
        duel = Duel(CHANCE, 1, ("end", 1), reach_paper(CHANCE, 1, ("end", 1)), 0)
        self.assertEqual(duel.program, CHANCE)
        self.assertEqual((duel.start, duel.goal, duel.answers), (1, ("end", 1), (0,)))
        self.assertEqual(duel.paper, reach_paper(CHANCE, 1, ("end", 1)))
        self.assertEqual((duel.choices, duel.state, duel.mode, duel.words, duel.steps, duel.options),
                         ((0, 1), "came", 0, ("flip",), 5, 0))
        self.assertEqual((len(duel), str(duel)), (2, "duel by climb, 2 choices, came in 0"))
        waits = Duel(CHANCE, 1, ("end", 1), duel.paper)
        self.assertEqual((waits.choices, waits.state, waits.mode, waits.words, waits.steps, waits.options),
                         ((), "waiting", 1, (), 1, 2))
        self.assertEqual((len(waits), str(waits)), (0, "duel by climb, 0 choices, waiting in 1"))
        self.assertEqual(waits.answered(0), duel)
        self.assertEqual(waits.answered(), waits)
        self.assertEqual(str(Duel(TICK, 0, ("end", 0), keep_paper(TICK, 0, ("end", 0)))), "duel by supported, 0 choices, far in 0")

    def test_equality(self):
        paper = reach_paper(CHANCE, 0, ("end", 1))
        duel = Duel(CHANCE, 0, ("end", 1), paper)
        self.assertTrue(duel == Duel.of(CHANCE, 0, ("end", 1), paper, ()))
        self.assertFalse(duel != Duel.of(CHANCE, 0, ("end", 1), paper, ()))
        longer = (paper[0], ({},) + paper[1])
        others = [duel.answered(0), Duel(CHANCE, 1, ("end", 1), reach_paper(CHANCE, 1, ("end", 1))),
                  Duel(CHANCE, 0, ("end", 3), paper), Duel(CHANCE, 0, ("end", 1), longer),
                  Duel(CHANCE, 0, ("end", 1), keep_paper(CHANCE, 0, ("end", 1))),
                  Duel(CHANCE.with_signals(("s",)), 0, ("end", 1), paper)]
        for other in others + wrong_values():
            self.assertFalse(duel == other)
            self.assertTrue(duel != other)

    def test_it_never_changes(self):
        given = {MAIN: TO_UP}
        work = {GIVEN: TO_UP}
        paper = ("climb", (work, given))
        duel = Duel(GIVE, 0, ("end", 2), paper)
        given.clear()
        work[MAIN] = ALWAYS
        self.assertEqual(duel.paper, PAPER)
        duel.paper[1][0].clear()
        self.assertEqual(duel.paper, PAPER)
        self.assertEqual(duel.answered(), Duel(GIVE, 0, ("end", 2), PAPER))
        book = dict(reversed(list(reach_book(FIND, ("end", 1)).items())))
        before = copy.deepcopy(list(book.items()))
        duel = Duel(FIND, 0, ("end", 1), ("closed", book))
        self.assertEqual(list(book.items()), before)
        self.assertEqual(list(duel.paper[1]), sorted(book))
        duel.paper[1].clear()
        book.clear()
        self.assertEqual(duel.paper, ("closed", dict(before)))

    def test_it_cannot_be_iterated_over(self):
        duel = Duel(GIVE, 0, ("end", 2), PAPER)
        with self.assertRaises(TypeError):
            iter(duel)

    def test_wrong_arguments(self):
        refused_questions(self, Duel, None, None)
        refused_questions(self, Duel.of, None, None)
        for value in wrong_values():
            refused(self, InvalidMeaning, lambda: Duel(GIVE, 0, ("end", 2), value, None))
            refused(self, InvalidMeaning, lambda: Duel.of(GIVE, 0, ("end", 2), value, None))
            if not is_int(value) or value < 0:
                refused(self, InvalidOperation, lambda: Duel(CHANCE, 0, ("end", 1), reach_paper(CHANCE, 0, ("end", 1)), value))
            if type(value) is not tuple or value != ():
                refused(self, InvalidOperation, lambda: Duel.of(GIVE, 0, ("end", 2), PAPER, value))
            refused(self, InvalidOperation, lambda: Duel(GIVE, 0, ("end", 2), PAPER, value))

    def test_papers_about_something_else(self):
        one_way = program(("case", UP, ("seq", UP, DOWN)))
        paper = reach_paper(one_way, 0, ("end", 2))
        self.assertEqual(Duel(one_way, 0, ("end", 2), paper).state, "came")
        refused(self, InvalidMeaning, lambda: Duel(one_way, 1, ("end", 2), paper, -1))
        refused(self, InvalidMeaning, lambda: Duel(one_way, 0, ("end", 1), paper))
        refused(self, InvalidMeaning, lambda: Duel(FIND, 0, ("end", 2), PAPER))
        refused(self, InvalidMeaning, lambda: Duel(GIVE, 0, ("end", 2), ("fall",) + PAPER[1:]))
        refused(self, InvalidMeaning, lambda: Duel(GIVE, 0, ("end", 2), ("closed", {MAIN: TO_UP})))
        for judge in (is_reach_paper, is_keep_paper):
            self.assertIs(judge(GIVE, 0, ("end", 2), ("closed", {MAIN: TO_UP})), False)

    def test_examples(self):
        climb = reach_paper(CHANCE, 0, ("end", 1))
        self.assertEqual(
            [Duel(CHANCE, 0, ("end", 1), climb).state, Duel(CHANCE, 0, ("end", 1), climb, 0).choices,
             Duel(CHANCE, 0, ("end", 1), climb, 1).choices, Duel(CHANCE, 0, ("end", 1), climb, 1).state],
            ["waiting", (0, 0), (1, 1), "came"],
        )


if __name__ == "__main__":
    unittest.main()
