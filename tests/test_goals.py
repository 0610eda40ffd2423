"""Stage 9: goals, and papers about them."""

import unittest

from handedworld.ask.goals import (
    can_keep, can_reach, is_goal, is_keep_paper, is_reach_paper, keep_paper, kept, reach_paper, reached,
)
from handedworld.base.procedures import Procedure
from handedworld.base.programs import Program
from handedworld.errors import InvalidGoal, InvalidNumber, InvalidProgram, TooMany
from handedworld.reckon.books import keep_book, reach_book
from handedworld.runs.runs import Run
from samples import GIVE, Maker, TICK, crowd, refused, swarm, wrong_values
from tellings import (
    SPACES, changed_paper, forces, goals_of, members, refused_goals, refused_questions, shows, wrong_goals,
)

MAIN = ("main", (), ())
KINDS = {"climb": is_reach_paper, "closed": is_reach_paper, "supported": is_keep_paper, "fall": is_keep_paper}


class Goals(unittest.TestCase):
    def test_is_goal(self):
        for value in (("end", 0), ("end", 1), ("end", 2), ("end", 3), ("deed", "use"), ("deed", "unknown"), ("signal", "need")):
            self.assertIs(is_goal(GIVE, value), True)
        self.assertIs(is_goal(TICK, ("end", 1)), True)
        self.assertIs(is_goal(TICK, ("end", 2)), False)
        self.assertIs(is_goal(TICK, ("signal", "need")), False)
        self.assertIs(is_goal(crowd("or"), ("end", 7)), True)
        self.assertIs(is_goal(crowd("or"), ("end", 8)), False)
        spare = GIVE.with_signals(("more", "need"))
        self.assertEqual([is_goal(spare, ("signal", name)) for name in ("more", "need", "none")], [True, True, False])
        self.assertEqual((reached(spare, ("signal", "more")), kept(spare, ("signal", "more"))), (0, 0))

    def test_values_of_all_kinds(self):
        for value in wrong_goals(GIVE):
            self.assertIs(is_goal(GIVE, value), False, value)
        for value in wrong_values():
            if type(value) is not Program:
                refused(self, InvalidProgram, lambda: is_goal(value, ("end", 0)))


class Answers(unittest.TestCase):
    def test_against_all_runs(self):
        maker = Maker(111)
        seen = {}
        for turn in range(130):
            one = maker.program(depth=4, loops=False, modes=(1, 2, 2, 3)[turn % 4])
            for goal in maker.dice.sample(goals_of(one), 3):
                until = goal[1] if goal[0] == "deed" else None
                expected = [forces(Run(one, mode, until=until), goal) for mode in range(one.modes)]
                number = sum(2**mode for mode, is_so in enumerate(expected) if is_so)
                self.assertEqual((reached(one, goal), kept(one, goal)), (number, number))
                for mode in range(one.modes):
                    self.assertIs(can_reach(one, mode, goal), expected[mode])
                    self.assertIs(can_keep(one, mode, goal), expected[mode])
                    seen[(goal[0], expected[mode])] = seen.get((goal[0], expected[mode]), 0) + 1
        self.assertEqual(len(seen), 6)

    def test_loops_by_looking_far_enough(self):
        """What is found by all choices in runs that do not end early is found, and more is not."""
        maker = Maker(112)
        sure = 0
        for turn in range(80):
            one = maker.program(depth=3, loops=True, modes=(1, 2)[turn % 2])
            for goal in maker.dice.sample(goals_of(one), 2):
                until = goal[1] if goal[0] == "deed" else None
                for mode in range(one.modes):
                    low, high = bounds(Run(one, mode, until=until), goal, 5)
                    self.assertLessEqual(low, can_reach(one, mode, goal))
                    self.assertLessEqual(can_keep(one, mode, goal), high)
                    self.assertLessEqual(can_reach(one, mode, goal), can_keep(one, mode, goal))
                    sure += low or not high
        self.assertGreater(sure, 60)

    def test_going_on_for_ever(self):
        self.assertEqual([(reached(TICK, ("end", good)), kept(TICK, ("end", good))) for good in (0, 1)], [(0, 1), (0, 1)])
        self.assertEqual((reached(TICK, ("deed", "tick")), kept(TICK, ("deed", "tick"))), (1, 1))
        self.assertEqual((reached(TICK, ("deed", "tock")), kept(TICK, ("deed", "tock"))), (0, 1))
        self.assertEqual([can_reach(TICK, 0, ("end", 1)), can_keep(TICK, 0, ("end", 1))], [False, True])

    def test_signals_that_come_out(self):
        ask = Procedure("main", (), ("or", ("call", "work"), ("seq",)))
        one = GIVE.with_procedure(ask)
        self.assertEqual([reached(one, ("signal", "need")), reached(one, ("end", 2)), reached(one, ("end", 3))], [3, 2, 3])
        theirs = GIVE.with_procedure(Procedure("main", (), ("and", ("call", "work"), ("seq",))))
        self.assertEqual([reached(theirs, ("signal", "need")), kept(theirs, ("end", 3))], [0, 0])

    def test_the_sets_of_books(self):
        for side in ("or", "and"):
            one = crowd(side)
            for goal in (("end", 1), ("end", 4), ("deed", "drop")):
                good = goal[1] if goal[0] == "end" else 0
                self.assertEqual(reached(one, goal), reach_book(one, goal)[MAIN][good])
                self.assertEqual(kept(one, goal), keep_book(one, goal)[MAIN][good])

    def test_wrong_arguments(self):
        for call in (reached, kept):
            refused_goals(self, call)
            refused(self, InvalidGoal, lambda: call(swarm("or"), ("end", 8)))
            refused(self, TooMany, lambda: call(swarm("or"), ("end", 1)), keeps=("limit", 800))
        for call in (can_reach, can_keep, reach_paper, keep_paper):
            refused_questions(self, call)
            refused(self, InvalidNumber, lambda: call(swarm("and"), 3, ("end", 1)), keeps=("value", 3))
            refused(self, InvalidGoal, lambda: call(swarm("and"), 2, ("end", 8)))
            refused(self, TooMany, lambda: call(swarm("and"), 2, ("end", 1)), keeps=("limit", 800))


def bounds(run, goal, most):
    """Whether the goal is surely reached, and whether it is perhaps kept to, by runs of so many choices."""
    if run.state == "done":
        return True, True
    if run.state == "far":
        return False, True
    if run.state == "waiting":
        if len(run) == most:
            return False, True
        found = [bounds(run.chosen(index), goal, most) for index in range(run.options)]
        pick = any if run.side == "or" else all
        return pick(low for low, _ in found), pick(high for _, high in found)
    if run.state == "ended":
        came = goal[0] == "end" and run.mode in members(goal[1])
    else:
        came = run.state == "asking" and goal == ("signal", run.signal)
    return came, came


class Papers(unittest.TestCase):
    def test_each_mode_has_one_of_both_kinds(self):
        maker = Maker(113)
        seen = set()
        for turn in range(120):
            one = maker.program(depth=4, loops=turn % 4 > 0, modes=(1, 2, 2, 3)[turn % 4])
            for goal in maker.dice.sample(goals_of(one), 2):
                for mode in range(one.modes):
                    up, down = reach_paper(one, mode, goal), keep_paper(one, mode, goal)
                    self.assertEqual(up[0], "climb" if can_reach(one, mode, goal) else "closed")
                    self.assertEqual(down[0], "supported" if can_keep(one, mode, goal) else "fall")
                    for paper in (up, down):
                        self.assertEqual((type(paper), len(paper)), (tuple, 2))
                        self.assertTrue(shows(paper[0], one, mode, goal, paper[1]))
                        for judge in (is_reach_paper, is_keep_paper):
                            self.assertIs(judge(one, mode, goal, paper), judge is KINDS[paper[0]])
                        seen.add(paper[0])
        self.assertEqual(len(seen), 4)

    def test_near_values(self):
        maker = Maker(114)
        seen = {}
        for turn in range(100):
            one = maker.program(depth=3, loops=True, modes=(1, 2)[turn % 2])
            goal = maker.dice.choice(goals_of(one))
            mode = maker.dice.randrange(one.modes)
            for kind, value in (reach_paper(one, mode, goal), keep_paper(one, mode, goal)):
                for word in KINDS:
                    if word != kind:
                        self.assertIs(KINDS[word](one, mode, goal, (word, value)), False)
                for other in ([kind, value], (kind,), (kind, value, value), (value, kind), value, kind, (None, value), (kind, None)):
                    for judge in (is_reach_paper, is_keep_paper):
                        self.assertIs(judge(one, mode, goal, other), False)
                for _ in range(5):
                    other = changed_paper(one, value, maker.dice)
                    expected = shows(kind, one, mode, goal, other)
                    self.assertIs(KINDS[kind](one, mode, goal, (kind, other)), expected)
                    seen[(kind, expected)] = seen.get((kind, expected), 0) + 1
        self.assertEqual(len(seen), 8)

    def test_values_of_all_kinds(self):
        for judge in (is_reach_paper, is_keep_paper):
            for value in wrong_values():
                self.assertIs(judge(GIVE, 0, ("end", 2), value), False)
                for kind in KINDS:
                    self.assertIs(judge(GIVE, 0, ("end", 2), (kind, value)), False)
                    self.assertIs(judge(GIVE, 0, ("end", 2), (kind, (value,))), False)

    def test_wrong_arguments_of_judges(self):
        for judge in (is_reach_paper, is_keep_paper):
            refused_questions(self, judge, ("climb", ()))

    def test_judges_have_no_limit(self):
        """The last procedure runs its block, so each context of it can be put in with the map of the block."""
        one = crowd("or")
        more = {("v", (row,), ()): row for row in SPACES[3].maps[:300]}
        for goal, kind, book in ((("end", 0), "closed", reach_book(one, ("end", 0))), (("end", 1), "supported", keep_book(one, ("end", 1)))):
            large = {**book, **more}
            self.assertGreater(len(large), 1000)
            self.assertIs(KINDS[kind](one, 1, goal, (kind, large)), True)
            self.assertIs(KINDS[kind](one, 1, goal, (kind, {**large, ("v", ((0, 1, 2, 3, 4, 5, 6, 7),), ()): (7, 0) * 4})), False)
        kind, books = reach_paper(one, 1, ("end", 1))
        self.assertIs(is_reach_paper(one, 1, ("end", 1), (kind, (more,) + tuple({**more, **book} for book in books))), True)


if __name__ == "__main__":
    unittest.main()
