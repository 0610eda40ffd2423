"""Stage 19: what is met, and papers about it."""

import copy
import unittest

from handedworld.ask.goals import reached
from handedworld.base.procedures import Procedure
from handedworld.base.programs import Program
from handedworld.errors import InvalidMeaning, InvalidOperation, InvalidProgram, TooMany
from handedworld.events.forward import forward_book
from handedworld.reckon.books import climb, is_climb, is_closed, reach_book
from handedworld.runs.runs import Run
from handedworld.unused.met import is_met, is_met_paper, met_paper, met_places
from handedworld.unused.places import places, probe
from footprints import footprints
from samples import CHANCE, FIND, GIVE, Maker, RUN_X, SWAP, TICK, TURN, crowd, refused, swarm, wrong_values
from tellings import changed_paper, shows
from test_places import near_places

NOTHING = ("seq",)
UP = ("do", "up", (1, 1))
DOWN = ("do", "down", (0, 0))
FLIP = ("do", "flip", (1, 0))
BAR = ("do", "bar", (None, None))


def program(body, *rows, signals=("s", "t"), modes=2):
    return Program(modes, signals, Procedure("main", (), body), *rows)


def unmet_places(one):
    return tuple(place for place in places(one) if place not in met_places(one))


class Met(unittest.TestCase):
    def test_examples(self):
        self.assertEqual(
            [met_places(FIND), is_met(FIND, ("each", (1,))), len(met_places(CHANCE)) == len(places(CHANCE)), met_paper(FIND, ("each", (1,)))[0]],
            [(("each", ()), ("each", (0,)), ("main", ()), ("main", (0,)), ("main", (0, 0)), ("main", (0, 0, 0)), ("main", (0, 0, 1))),
             False, True, "unmet"],
        )

    def misses(self, one, *expected):
        """Whether just these places are not met."""
        self.assertEqual(unmet_places(one), expected)
        for place in places(one):
            self.assertIs(is_met(one, place), place not in expected)

    def test_each_word(self):
        self.misses(program(("seq", UP, BAR, DOWN, FLIP)), ("main", (2,)), ("main", (3,)))
        self.misses(program(("seq", UP, ("case", FLIP, DOWN))), ("main", (1, 0)))
        self.misses(program(("or", BAR, UP)))
        self.misses(program(("and", BAR, UP)))
        self.misses(program(("scope", "l", ("seq", ("exit", "l"), UP))), ("main", (0, 1)))
        self.misses(program(("seq", ("raise", "s"), UP)), ("main", (1,)))
        self.misses(program(("answer", (("s", UP), ("t", DOWN)), ("raise", "s"))), ("main", (1,)))
        self.misses(program(("answer", (("s", ("answer", (("t", UP),), ("raise", "t"))),), NOTHING)), ("main", (0,)), ("main", (0, 0)), ("main", (0, 1)))
        self.misses(program(("seq", ("do", "half", (None, 0)), FLIP)))

    def test_calls_and_blocks(self):
        rows = Procedure("p", ("x", "y"), ("seq", RUN_X, ("call", "p", ("run", "y"), RUN_X))), Procedure("q", (), UP)
        self.misses(program(("call", "p", NOTHING, ("seq", BAR, ("call", "q"))), *rows), ("main", (1, 1)), ("p", (1, 1)), ("q", ()))
        self.misses(program(("call", "q"), *rows), *[("p", path) for path in ((), (0,), (1,), (1, 0), (1, 1))])
        never = Procedure("p", ("x", "y"), ("seq", ("call", "p", RUN_X, RUN_X), ("run", "y")))
        self.misses(program(("call", "p", UP, DOWN), never), ("main", (0,)), ("main", (1,)), ("p", (0, 0)), ("p", (0, 1)), ("p", (1,)))

    def test_what_is_met_in_some_mode_alone(self):
        deep = ("case", ("seq", UP, ("case", BAR, FLIP)), ("seq", ("case", BAR, DOWN)))
        self.misses(program(deep), ("main", (0, 1, 0)), ("main", (1, 0, 0)))

    def test_what_the_other_side_chooses(self):
        self.misses(program(("and", ("seq", UP, ("case", FLIP, DOWN)), NOTHING)), ("main", (0, 1, 0)))

    def test_against_the_goals_of_probes(self):
        maker = Maker(191)
        seen = {True: 0, False: 0}
        for turn in range(60):
            one = maker.program(depth=4 + turn % 2, loops=turn % 4 > 0, modes=(1, 2, 2, 3)[turn % 4])
            found = met_places(one)
            self.assertEqual(list(found), sorted(found))
            for place in places(one):
                word, other = probe(one, place)
                expected = reached(other, ("deed", word)) != 0
                self.assertIs(is_met(one, place), expected)
                self.assertIs(place in found, expected)
                seen[expected] += 1
        self.assertGreater(min(seen.values()), 200)

    def test_against_the_steps_of_runs(self):
        maker = Maker(192)
        whole = 0
        for turn in range(250):
            one = maker.program(depth=4 + turn % 3 // 2, loops=turn % 2 == 0)
            trodden, is_all = footprints(one)
            found = set(met_places(one))
            self.assertLessEqual(trodden, found)
            if is_all:
                self.assertEqual(trodden, found)
                whole += 1
        self.assertGreater(whole, 150)

    def test_footprints_are_those_of_runs(self):
        """The steps of the footprints and of Run go together: a deed of the probe is done just where it is come to."""
        maker = Maker(193)
        for turn in range(40):
            one = maker.program(depth=3, loops=False, bans=("or", "and"))
            for place in places(one):
                word, other = probe(one, place)
                done = any(Run(other, mode, until=word).state == "done" for mode in range(one.modes))
                self.assertIs(place in footprints(one)[0], done)

    def test_growing_blocks(self):
        """What is handed on without bound is looked at in finitely many contexts."""
        grow = Procedure("grow", ("x",), ("or", RUN_X, ("call", "grow", ("seq", RUN_X, TURN))))
        one = program(("seq", ("call", "grow", NOTHING), ("case", UP3, UP3, ("seq", BAR3, UP3))), grow, modes=3)
        self.misses(one, ("main", (1, 2, 1)))

    def test_wrong_arguments(self):
        for value in wrong_values():
            if type(value) is not Program:
                refused(self, InvalidProgram, lambda: is_met(value, None))
                refused(self, InvalidProgram, lambda: met_places(value))
                refused(self, InvalidProgram, lambda: met_paper(value, None))
                refused(self, InvalidProgram, lambda: is_met_paper(value, None, None))
            if not (type(value) is tuple and value == ("main", ())):
                for call in (is_met, met_paper, lambda one, place: is_met_paper(one, place, None)):
                    refused(self, InvalidOperation, lambda: call(GIVE, value))
                    refused(self, InvalidOperation, lambda: call(swarm("or"), value))
        for value in near_places(GIVE):
            for call in (is_met, met_paper, lambda one, place: is_met_paper(one, place, None)):
                refused(self, InvalidOperation, lambda: call(GIVE, value))


UP3 = ("do", "up", (1, 1, 1))
BAR3 = ("do", "bar", (None, None, None))


class Limits(unittest.TestCase):
    def test_as_of_the_forward_book(self):
        """The contexts of the program with "or" alone count, those of probes do not."""
        for side in ("or", "and"):
            fits = crowd(side)
            self.assertEqual(len(forward_book(crowd("or"))), 800)
            self.assertEqual(met_places(fits), places(fits))
            self.assertIs(is_met(fits, ("main", ())), True)
            for one in (crowd(side, last=2), swarm(side)):
                refused(self, TooMany, lambda: met_places(one), keeps=("limit", 800))
                refused(self, TooMany, lambda: is_met(one, ("main", ())), keeps=("limit", 800))

    def test_probes_with_more_contexts(self):
        """The probe of a place makes one block more, which the program itself does not hand on."""
        few = crowd("or")
        one = few.with_procedure(Procedure("main", (), few["main"].body[:-1] + (("call", "v", ("or", NOTHING, SWAP)),)))
        two = one.with_procedure(Procedure("main", (), one["main"].body + (("call", "v", ("or", NOTHING, SWAP)),)))
        place = ("main", (6, 0, 1))
        word, other = probe(two, place)
        refused(self, TooMany, lambda: reach_book(other, ("deed", word)), keeps=("limit", 800))
        self.assertIs(is_met(two, place), True)
        self.assertEqual(met_places(two), places(two))
        refused(self, TooMany, lambda: met_paper(two, place), keeps=("limit", 800))

    def test_papers_of_large_programs(self):
        one = crowd("and")
        for place in (("main", ()), ("v", ())):
            paper = met_paper(one, place)
            self.assertEqual(paper[0], "met")
            self.assertIs(is_met_paper(one, place, paper), True)
        # The probe of main needs main alone.
        self.assertEqual(met_paper(swarm("and"), ("main", ()))[0], "met")
        refused(self, TooMany, lambda: met_paper(swarm("and"), ("p", (0,))), keeps=("limit", 800))


def right_paper(one, place, value):
    """Whether the value is a met paper, by the papers of its probe."""
    word, other = probe(one, place)
    goal = ("deed", word)
    try:
        if value[0] == "met":
            return shows("climb", other, value[1], goal, value[2])
        return all(shows("closed", other, mode, goal, value[1]) for mode in range(one.modes))
    except (InvalidMeaning, InvalidOperation):
        # A context that the probe of this place does not have: a procedure has other free signals there.
        return False


class Papers(unittest.TestCase):
    def test_just_one_kind(self):
        maker = Maker(194)
        seen = {"met": 0, "unmet": 0}
        for turn in range(60):
            one = maker.program(depth=4, loops=turn % 3 > 0, modes=(1, 2, 2, 3)[turn % 4])
            found = places(one)
            for place in maker.dice.sample(found, min(6, len(found))):
                paper = met_paper(one, place)
                word, other = probe(one, place)
                self.assertEqual(paper[0], "met" if is_met(one, place) else "unmet")
                self.assertIs(is_met_paper(one, place, paper), True)
                self.assertTrue(right_paper(one, place, paper))
                if paper[0] == "met":
                    self.assertEqual((len(paper), type(paper[2])), (3, tuple))
                    self.assertTrue(is_climb(other, paper[1], ("deed", word), paper[2]))
                else:
                    self.assertEqual((len(paper), type(paper[1])), (2, dict))
                    self.assertTrue(all(is_closed(other, mode, ("deed", word), paper[1]) for mode in range(one.modes)))
                seen[paper[0]] += 1
        self.assertGreater(min(seen.values()), 60)

    def test_each_right_paper_is_accepted(self):
        maker = Maker(195)
        many = 0
        for turn in range(40):
            one = maker.program(depth=4, loops=True, modes=(1, 2)[turn % 2])
            for place in maker.dice.sample(places(one), min(5, len(places(one)))):
                word, other = probe(one, place)
                for mode in range(one.modes):
                    books = climb(other, mode, ("deed", word))
                    if books is not None:
                        self.assertIs(is_met_paper(one, place, ("met", mode, books)), True)
                        self.assertIs(is_met_paper(one, place, ("met", mode, ({},) + books)), True)
                        many += 1
                    else:
                        book = reach_book(other, ("deed", word))
                        self.assertIs(is_met_paper(one, place, ("unmet", book)), not is_met(one, place))
                        self.assertIs(is_met_paper(one, place, ("met", mode, (book,))), False)
        self.assertGreater(many, 50)

    def test_for_other_places(self):
        """A paper is judged by the probe of the place that is told."""
        maker = Maker(196)
        seen = {True: 0, False: 0}
        for turn in range(40):
            one = maker.program(depth=4, loops=True, modes=(1, 2)[turn % 2])
            found = maker.dice.sample(places(one), min(4, len(places(one))))
            papers = [met_paper(one, place) for place in found]
            for place in found:
                for paper in papers:
                    expected = right_paper(one, place, paper)
                    self.assertIs(is_met_paper(one, place, paper), expected)
                    seen[expected] += 1
        self.assertGreater(min(seen.values()), 30)
        self.assertIs(is_met_paper(FIND, ("each", (1, 0)), met_paper(FIND, ("main", ()))), False)

    def test_near_values(self):
        maker = Maker(197)
        seen = {}
        for turn in range(60):
            one = maker.program(depth=3, loops=True, modes=(1, 2)[turn % 2])
            place = maker.dice.choice(places(one))
            paper = met_paper(one, place)
            word, other = probe(one, place)
            for value in (list(paper), paper[:-1], paper + (paper[-1],), paper[1:], paper[-1], (paper,), paper[0], ("other",) + paper[1:], (None,) + paper[1:]):
                self.assertIs(is_met_paper(one, place, value), False)
            twisted = ("unmet", paper[-1]) if paper[0] == "met" else ("met", 0, paper[-1])
            self.assertIs(is_met_paper(one, place, twisted), False)
            self.assertIs(is_met_paper(one, place, ("climb",) + paper[1:]), False)
            for _ in range(6):
                changed = paper[:-1] + (changed_paper(other, paper[-1], maker.dice),)
                expected = right_paper(one, place, changed)
                self.assertIs(is_met_paper(one, place, changed), expected)
                seen[(paper[0], expected)] = seen.get((paper[0], expected), 0) + 1
            if paper[0] == "met":
                for start in (-1, one.modes, True, False, None, "0", (0,)):
                    if type(start) is not bool or one.modes > 0:
                        self.assertIs(is_met_paper(one, place, ("met", start, paper[2])), False)
        self.assertEqual(len(seen), 4)

    def test_values_of_all_kinds(self):
        for value in wrong_values():
            for place in (("main", ()), ("work", (1,))):
                self.assertIs(is_met_paper(GIVE, place, value), False)
                for other in (("met", value, ()), ("met", 0, value), ("met", 0, (value,)), ("unmet", value), (value, {}), (value, 0, ({},)), (value,)):
                    self.assertIs(is_met_paper(GIVE, place, other), False)

    def test_from_one_mode_alone(self):
        one = program(("seq", ("case", UP, BAR), FLIP))
        self.assertEqual(met_paper(one, ("main", (1,)))[:2], ("met", 0))
        books = met_paper(one, ("main", (1,)))[2]
        self.assertIs(is_met_paper(one, ("main", (1,)), ("met", 1, books)), False)

    def test_nothing_is_changed(self):
        before = copy.deepcopy(FIND)
        paper = met_paper(FIND, ("each", (1,)))
        held = copy.deepcopy(paper)
        is_met_paper(FIND, ("each", (1,)), paper)
        self.assertEqual((paper, FIND), (held, before))
        paper[1].clear()
        self.assertEqual(met_paper(FIND, ("each", (1,))), held)
        self.assertEqual(met_places(TICK), places(TICK))


if __name__ == "__main__":
    unittest.main()
