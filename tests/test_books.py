"""[0.11] to [0.15] and stage 8: books, climbs and falls."""

import copy
import time
import unittest

from handedworld.base.procedures import Procedure
from handedworld.base.programs import Program
from handedworld.errors import InvalidGoal, InvalidNumber, InvalidOperation, InvalidProgram, TooMany
from handedworld.reckon import books
from handedworld.reckon.books import (
    climb, fall, greatest_map, is_climb, is_closed, is_fall, is_supported, keep_book, least_map, reach_book,
)
from handedworld.reckon.terms import beginning, reckoned
from handedworld.runs.runs import Run
from samples import CHANCE, FIND, FLIP, GIVE, Maker, RUN_X, SWAP, TICK, TURN, crowd, refused, swarm, wrong_values
from tellings import (
    SPACES, any_context, any_goal, changed_paper, closed_book, forces, from_there_on, goals_of, good_of,
    map_is_within, members, refused_goals, refused_questions, shows, wrong_goals,
)

GIVEN = ("work", (), ((0, 0, 3, 3),))
MAIN = ("main", (), ())
NOTHING = ("seq",)
UP = ("do", "up", (1, 1))
DOWN = ("do", "down", (0, 0))
BAR = ("do", "bar", (None, None))
NEVER, ALWAYS, SAME = (0, 0, 0, 0), (3, 3, 3, 3), (0, 1, 2, 3)
JUDGES = {"closed": is_closed, "supported": is_supported, "climb": is_climb, "fall": is_fall}
# TICK has one mode; this one may or may not tick on.
MAYBE = Program(1, (), Procedure("main", (), ("or", ("do", "tick", (0,)), ("call", "main"))))


def program(body, *rows, signals=(), modes=2):
    return Program(modes, signals, Procedure("main", (), body), *rows)


def papers(one, mode, goal):
    """The kinds and values of both papers about a mode."""
    found = climb(one, mode, goal)
    reach = ("closed", reach_book(one, goal)) if found is None else ("climb", found)
    found = fall(one, mode, goal)
    keep = ("supported", keep_book(one, goal)) if found is None else ("fall", found)
    return reach, keep


class Told(unittest.TestCase):
    """Least and greatest books of programs that were looked at by hand."""

    def sets(self, one, goal):
        first, good = beginning(one, goal), good_of(goal)
        return reach_book(one, goal)[first][good], keep_book(one, goal)[first][good]

    def test_choices_of_both_sides(self):
        one = program(("seq", ("or", UP, DOWN), ("and", FLIP, NOTHING)))
        self.assertEqual([self.sets(one, ("end", good)) for good in range(4)], [(0, 0), (0, 0), (0, 0), (3, 3)])
        two = program(("seq", ("and", UP, DOWN), ("or", FLIP, NOTHING)))
        self.assertEqual([self.sets(two, ("end", good)) for good in range(4)], [(0, 0), (3, 3), (3, 3), (3, 3)])

    def test_loops(self):
        again = ("seq", FLIP, ("call", "main"))
        mine, theirs = program(("or", NOTHING, again)), program(("and", NOTHING, again))
        self.assertEqual([self.sets(mine, ("end", good)) for good in range(4)], [(0, 3), (3, 3), (3, 3), (3, 3)])
        self.assertEqual([self.sets(theirs, ("end", good)) for good in range(4)], [(0, 0), (0, 0), (0, 0), (0, 3)])
        self.assertEqual(self.sets(theirs, ("deed", "flip")), (0, 0))
        self.assertEqual(self.sets(mine, ("deed", "flip")), (3, 3))

    def test_exits_out_of_handed_blocks(self):
        each = Procedure("each", ("x",), ("seq", RUN_X, ("call", "each", ("seq", RUN_X, FLIP))))
        one = program(("scope", "out", ("call", "each", ("case", NOTHING, ("exit", "out")))), each)
        self.assertEqual(self.sets(one, ("end", 2)), (3, 3))
        self.assertEqual(self.sets(one, ("end", 1)), (0, 0))
        stays = one.with_procedure(Procedure("each", ("x",), ("seq", RUN_X, ("call", "each", ("seq", FLIP, RUN_X, FLIP)))))
        self.assertEqual(self.sets(stays, ("end", 2)), (3, 3))
        self.assertEqual(self.sets(stays, ("deed", "flip")), (1, 1))

    def test_answers_near_around_and_within(self):
        ask = Procedure("ask", (), ("raise", "s"))
        near = program(("answer", (("s", UP),), ("seq", ("raise", "s"), ("call", "ask"))), ask, signals=("s",))
        self.assertEqual(self.sets(near, ("end", 2)), (3, 3))
        inner = ("answer", (("s", ("seq", ("call", "ask"), FLIP)),), ("call", "ask"))
        within = program(("answer", (("s", UP),), inner), ask, signals=("s",))
        self.assertEqual([self.sets(within, ("end", good)) for good in (1, 2)], [(3, 3), (0, 0)])
        hand = Procedure("hand", ("x",), ("answer", (("s", DOWN),), ("seq", RUN_X, ("call", "ask"))))
        handed = program(("answer", (("s", UP),), ("call", "hand", ("raise", "s"))), ask, hand, signals=("s",))
        self.assertEqual([self.sets(handed, ("deed", word)) for word in ("up", "down", "flip")], [(3, 3), (3, 3), (0, 0)])

    def test_signals_that_come_out(self):
        ask = Procedure("ask", (), ("or", ("raise", "a"), ("and", ("raise", "b"), NOTHING)))
        one = program(("seq", UP, ("call", "ask")), ask, signals=("a", "b"))
        self.assertEqual(self.sets(one, ("signal", "a")), (3, 3))
        self.assertEqual(self.sets(one, ("signal", "b")), (0, 0))
        self.assertEqual([self.sets(one, ("end", good)) for good in range(4)], [(0, 0)] * 4)

    def test_cases_and_deeds_that_cannot_be_done(self):
        half = ("do", "half", (None, 0))
        one = program(("case", ("or", half, FLIP), half))
        self.assertEqual([self.sets(one, ("end", good)) for good in range(4)], [(0, 0), (2, 2), (1, 1), (3, 3)])
        self.assertEqual(self.sets(one, ("deed", "half")), (2, 2))
        self.assertEqual(self.sets(program(BAR), ("end", 3)), (0, 0))

    def test_blocks_that_grow(self):
        grow = Procedure("grow", ("x",), ("or", RUN_X, ("call", "grow", ("seq", RUN_X, TURN))))
        one = program(("call", "grow", NOTHING), grow, modes=3)
        book = reach_book(one, ("end", 4))
        same = tuple(range(8))
        self.assertEqual(len(book), 4)
        self.assertEqual(book[("grow", (same,), ())], tuple([0] + [7] * 7))
        self.assertEqual(book[MAIN], book[("grow", (same,), ())])

    def test_deeds_of_the_goal_are_good_at_once(self):
        one = program(("seq", UP, ("call", "main")))
        self.assertEqual(self.sets(one, ("deed", "up")), (3, 3))
        self.assertEqual(self.sets(one, ("deed", "other")), (0, 3))
        self.assertEqual(self.sets(one, ("end", 0)), (0, 3))


class Books(unittest.TestCase):
    def check_book(self, one, goal, book, greatest):
        """Whether a book has just what is needed, and the maps that are found by reckoning again and again."""
        first = beginning(one, goal)
        self.assertEqual(list(book), sorted(book))
        self.assertEqual(set(book), from_there_on(one, first, goal, book))
        plain = closed_book(one, first, goal, greatest)
        for context in book:
            self.assertEqual(book[context], reckoned(one, context, goal, book))
            self.assertEqual(book[context], plain[context])

    def test_against_reckoning_again_and_again(self):
        maker = Maker(101)
        sizes = set()
        for turn in range(110):
            one = maker.program(depth=4, loops=turn % 5 > 0, modes=(1, 2, 2, 3)[turn % 4])
            for goal in maker.dice.sample(goals_of(one), 3):
                least, greatest = reach_book(one, goal), keep_book(one, goal)
                self.check_book(one, goal, least, False)
                self.check_book(one, goal, greatest, True)
                for context in set(least) & set(greatest):
                    self.assertTrue(map_is_within(least[context], greatest[context]))
                sizes |= {len(least), len(greatest)}
        self.assertGreater(max(sizes), 12)

    def test_against_all_runs(self):
        maker = Maker(102)
        for turn in range(120):
            one = maker.program(depth=4, loops=False)
            for goal in maker.dice.sample(goals_of(one), 3):
                until = goal[1] if goal[0] == "deed" else None
                for book in (reach_book(one, goal), keep_book(one, goal)):
                    number = book[beginning(one, goal)][good_of(goal)]
                    for mode in range(one.modes):
                        self.assertIs(mode in members(number), forces(Run(one, mode, until=until), goal))

    def test_the_same_book_for_all_sets(self):
        for one in (CHANCE, FIND, GIVE):
            self.assertEqual(len({tuple(reach_book(one, ("end", good)).items()) for good in range(4)}), 1)
            self.assertEqual(len({tuple(keep_book(one, ("end", good)).items()) for good in range(4)}), 1)

    def test_maps_for_lesser_ones_are_not_told(self):
        """q is never first, so p with nothing handed is asked for on the way alone."""
        one = program(("call", "p", ("call", "q")), Procedure("p", ("x",), RUN_X), Procedure("q", (), UP))
        up = (0, 0, 3, 3)
        book = {MAIN: up, ("p", (up,), ()): up, ("q", (), ()): up}
        self.assertEqual(reach_book(one, ("end", 2)), book)
        self.assertEqual(keep_book(one, ("end", 2)), book)

    def test_a_block_that_is_found_in_rounds(self):
        """The block of p grows while p is reckoned with lesser blocks."""
        one = program(
            ("call", "q"), Procedure("p", ("x",), RUN_X),
            Procedure("q", (), ("or", TURN, ("seq", SWAP, ("call", "p", ("call", "q"))))), modes=3,
        )
        least, greatest = reach_book(one, ("end", 1)), keep_book(one, ("end", 1))
        for book in (least, greatest):
            self.assertEqual(len(book), 3)
            self.assertEqual(sorted(name for name, _, _ in book), ["main", "p", "q"])
            self.assertEqual(len(set(book.values())), 1)
        self.assertEqual(least[MAIN][1], 4 | 1 << 2 | least[MAIN][1])
        self.assertTrue(map_is_within(least[MAIN], greatest[MAIN]))


class Maps(unittest.TestCase):
    def test_of_contexts(self):
        maker = Maker(103)
        for turn in range(60):
            one = maker.program(depth=4, loops=True, modes=(1, 2, 2, 3)[turn % 4])
            for name in one.names:
                context = any_context(one, name, maker.dice, monotone=True)
                goal = any_goal(one, maker.dice)
                least, greatest = least_map(one, context, goal), greatest_map(one, context, goal)
                self.assertEqual(least, closed_book(one, context, goal)[context])
                self.assertEqual(greatest, closed_book(one, context, goal, greatest=True)[context])
                self.assertIn(least, SPACES[one.modes])
                self.assertIn(greatest, SPACES[one.modes])
                self.assertTrue(map_is_within(least, greatest))

    def test_of_the_contexts_of_a_book(self):
        for goal in (("end", 2), ("deed", "look"), ("deed", "use"), ("end", 1)):
            for one in (CHANCE, FIND, GIVE):
                for context, found in reach_book(one, goal).items():
                    self.assertEqual(least_map(one, context, goal), found)
                for context, found in keep_book(one, goal).items():
                    self.assertEqual(greatest_map(one, context, goal), found)

    def test_no_mode_is_lost_when_maps_grow(self):
        maker = Maker(104)
        grown = 0
        for turn in range(80):
            one = maker.program(depth=4, loops=True, modes=2, signals=("ask",))
            name = maker.dice.choice(one.names)
            _, meanings, answers = any_context(one, name, maker.dice, monotone=True)
            space = SPACES[one.modes]

            def larger(one_map):
                return space.either(one_map, maker.dice.choice(space.maps))

            other = (name, tuple(map(larger, meanings)), tuple(map(larger, answers)))
            goal = any_goal(one, maker.dice)
            for found in (least_map, greatest_map):
                before, after = found(one, (name, meanings, answers), goal), found(one, other, goal)
                self.assertTrue(map_is_within(before, after))
                grown += before != after
        self.assertGreater(grown, 5)

    def test_wrong_arguments(self):
        wild = ("work", (), ((3, 0, 0, 0),))
        for found in (least_map, greatest_map):
            for value in wrong_values():
                if type(value) is not Program:
                    refused(self, InvalidProgram, lambda: found(value, None, None))
                if value != MAIN or type(value) is not tuple:
                    refused(self, InvalidOperation, lambda: found(GIVE, value, None))
            refused(self, InvalidOperation, lambda: found(GIVE, wild, ("end", 0)))
            refused(self, InvalidOperation, lambda: found(FIND, ("each", ((0, 3, 0, 0),), ()), ("end", 0)))
            refused(self, InvalidOperation, lambda: found(FIND, ("each", ((0, 3, 0, 4),), ()), ("end", 0)))
            for goal in wrong_goals(GIVE):
                refused(self, InvalidGoal, lambda: found(GIVE, MAIN, goal))
            refused(self, InvalidGoal, lambda: found(swarm("or"), MAIN, ("end", 8)))
            refused(self, TooMany, lambda: found(swarm("or"), MAIN, ("end", 1)), keeps=("limit", 800))
            small = tuple(range(8))
            refused(self, TooMany, lambda: found(swarm("and"), ("p", (small, small), ()), ("end", 1)), keeps=("limit", 800))
        one = crowd("or", last=3)
        refused(self, TooMany, lambda: least_map(one, MAIN, ("end", 1)))
        self.assertEqual(least_map(one, ("s", (tuple(range(8)),), ()), ("end", 1)), (0,) + (7,) * 7)


class Judges(unittest.TestCase):
    def test_what_is_told_is_accepted_and_just_one_kind_exists(self):
        maker = Maker(105)
        seen = {}
        for turn in range(150):
            one = maker.program(depth=4, loops=turn % 4 > 0, modes=(1, 2, 2, 3)[turn % 4])
            for goal in maker.dice.sample(goals_of(one), 2):
                least, greatest = reach_book(one, goal), keep_book(one, goal)
                first, good = beginning(one, goal), good_of(goal)
                for mode in range(one.modes):
                    reached, kept = mode in members(least[first][good]), mode in members(greatest[first][good])
                    up, down = climb(one, mode, goal), fall(one, mode, goal)
                    self.assertEqual((up is not None, down is None), (reached, kept))
                    self.assertIs(is_closed(one, mode, goal, least), not reached)
                    self.assertIs(is_supported(one, mode, goal, greatest), kept)
                    for kind, value in (("climb", up), ("fall", down)):
                        if value is not None:
                            self.assertIs(type(value), tuple)
                            self.assertIs(JUDGES[kind](one, mode, goal, value), True)
                            self.assertTrue(shows(kind, one, mode, goal, value))
                            self.assertTrue(all(list(book) == sorted(book) for book in value))
                        self.assertIs(JUDGES[kind](one, mode, goal, None), False)
                    for key in (("reached", reached), ("kept", kept)):
                        seen[key] = seen.get(key, 0) + 1
        self.assertGreater(min(seen.values()), 60)

    def test_changed_papers(self):
        """Right and wrong papers, as the document says it, told once more."""
        maker = Maker(106)
        seen = {}
        for turn in range(150):
            one = maker.program(depth=3, loops=turn % 4 > 0, modes=(1, 2, 2, 3)[turn % 4])
            goal = maker.dice.choice(goals_of(one))
            mode = maker.dice.randrange(one.modes)
            for kind, value in papers(one, mode, goal):
                for _ in range(9):
                    other = changed_paper(one, value, maker.dice)
                    if maker.dice.random() < 0.4:
                        other = changed_paper(one, other, maker.dice)
                    expected = shows(kind, one, mode, goal, other)
                    self.assertIs(JUDGES[kind](one, mode, goal, other), expected)
                    seen[(kind, expected)] = seen.get((kind, expected), 0) + 1
        self.assertEqual(len(seen), 8)
        self.assertGreater(min(seen.values()), 80)

    def test_larger_closed_books(self):
        book = reach_book(FIND, ("end", 1))
        full = ("each", (ALWAYS,), ())
        for more in ({full: ALWAYS}, {full: ALWAYS, ("each", (SAME,), ()): SAME}):
            self.assertIs(is_closed(FIND, 0, ("end", 1), {**book, **more}), True)
        wild = ("each", ((3, 0, 0, 1),), ())
        self.assertIs(is_closed(FIND, 0, ("end", 1), {**book, wild: (1, 2, 3, 1)}), True)
        self.assertIs(is_closed(FIND, 0, ("end", 1), {**book, wild: (3, 3, 3, 3)}), True)
        self.assertIs(is_closed(FIND, 0, ("end", 1), {**book, wild: (1, 2, 3, 0)}), False)
        self.assertIs(is_closed(FIND, 0, ("end", 1), {**book, MAIN: (0, 0, 3, 3)}), True)
        self.assertIs(is_closed(FIND, 0, ("end", 1), {**book, MAIN: (0, 2, 3, 3)}), True)
        self.assertIs(is_closed(FIND, 1, ("end", 1), {**book, MAIN: (0, 2, 3, 3)}), False)
        self.assertIs(is_closed(FIND, 0, ("end", 1), {**book, MAIN: (0, 0, 1, 3)}), False)
        more = {**book, ("each", ((0, 0, 1, 3),), ()): NEVER}
        self.assertIs(is_closed(FIND, 0, ("end", 1), more), True)

    def test_closed_books_without_what_is_needed(self):
        book = reach_book(FIND, ("end", 1))
        for context in book:
            self.assertIs(is_closed(FIND, 0, ("end", 1), {one: book[one] for one in book if one != context}), False)
        self.assertIs(is_closed(FIND, 0, ("end", 1), {}), False)
        one = program(("seq", BAR, ("call", "p")), Procedure("p", (), UP))
        self.assertIs(is_closed(one, 0, ("end", 2), {MAIN: NEVER}), False)
        self.assertIs(is_closed(one, 0, ("end", 2), {MAIN: NEVER, ("p", (), ()): (0, 0, 3, 3)}), True)
        self.assertIs(is_closed(one, 0, ("end", 2), {MAIN: NEVER, ("p", (), ()): (0, 0, 3, 1)}), False)

    def test_smaller_supported_books(self):
        self.assertIs(is_supported(MAYBE, 0, ("end", 0), {MAIN: (1, 1)}), True)
        self.assertIs(is_supported(MAYBE, 0, ("end", 0), {MAIN: (1, 0)}), True)
        self.assertIs(is_supported(MAYBE, 0, ("end", 0), {MAIN: (0, 1)}), False)
        self.assertIs(is_supported(MAYBE, 0, ("end", 1), {MAIN: (0, 1)}), True)
        self.assertIs(is_supported(MAYBE, 0, ("end", 0), {}), False)
        self.assertIs(is_supported(FIND, 0, ("end", 2), {MAIN: (0, 0, 3, 3)}), False)
        ever = ("each", (ALWAYS,), ())
        self.assertIs(is_supported(FIND, 0, ("end", 2), {MAIN: (0, 0, 3, 3), ever: ALWAYS}), True)
        self.assertIs(is_supported(FIND, 0, ("end", 2), {MAIN: (0, 0, 1, 0), ever: (0, 0, 2, 0)}), False)
        self.assertIs(is_supported(FIND, 0, ("end", 2), {MAIN: (0, 0, 1, 0), ever: (0, 0, 1, 0)}), True)
        self.assertIs(is_supported(FIND, 1, ("end", 2), {MAIN: (0, 0, 1, 0), ever: (0, 0, 1, 0)}), False)

    def test_climbs_book_by_book(self):
        goal, work, main = ("end", 2), {GIVEN: (0, 0, 3, 3)}, {MAIN: (0, 0, 3, 3)}
        for value, expected in (
            ((work, main), True), (({}, work, main), True), ((work, {**work, **main}), True), ((work, work, main), True),
            ((main,), False), ((work,), False), ((main, work), False), ((work, main, work), False), ((work, main, main), False),
            ((work, {**main, **work}, main), True), ((work, {MAIN: (0, 0, 1, 0)}), True), ((work, {MAIN: (1, 0, 3, 3)}), False),
            (({GIVEN: (0, 0, 1, 0)}, {MAIN: (0, 0, 1, 0)}), True), (({GIVEN: (0, 0, 2, 0)}, {MAIN: (0, 0, 1, 0)}), False),
            ((), False), (({},), False), (work, False), ([work, main], False), ((work, {}, main), False),
        ):
            self.assertIs(is_climb(GIVE, 0, goal, value), expected, value)
        self.assertIs(is_climb(GIVE, 1, goal, (work, {MAIN: (0, 0, 1, 0)})), False)
        self.assertIs(is_climb(GIVE, 1, goal, (work, {MAIN: (0, 0, 2, 0)})), True)

    def test_falls_book_by_book(self):
        goal, work, main = ("end", 1), {GIVEN: (0, 0, 3, 3)}, {MAIN: (0, 0, 3, 3)}
        for value, expected in (
            ((work, main), True), (({}, work, main), True), ((main,), False), ((work,), False), ((main, work), False),
            ((work, {MAIN: (0, 2, 3, 3)}), True), ((work, {MAIN: (0, 1, 3, 3)}), False), ((work, {MAIN: (0, 0, 2, 3)}), False),
            (({GIVEN: (0, 2, 3, 3)}, {MAIN: (3, 2, 3, 3)}), True), (({GIVEN: (0, 2, 3, 3)}, main), False),
            (({GIVEN: (0, 2, 1, 3)}, {MAIN: (3, 2, 3, 3)}), False), ((), False), (({},), False), ((work, {}), False),
            ([work, main], False), (main, False), ((work, {}, main), False), ((work, {MAIN: ALWAYS}, main), False),
        ):
            self.assertIs(is_fall(GIVE, 0, goal, value), expected, value)

    def test_other_modes_goals_and_programs(self):
        work, main = {GIVEN: (0, 0, 3, 3)}, {MAIN: (0, 0, 3, 3)}
        self.assertIs(is_climb(GIVE, 0, ("end", 1), (work, main)), False)
        self.assertIs(is_climb(GIVE, 0, ("end", 3), (work, main)), True)
        self.assertIs(is_climb(GIVE, 0, ("deed", "use"), (work, main)), False)
        self.assertIs(is_climb(FIND, 0, ("end", 2), (work, main)), False)
        self.assertIs(is_closed(FIND, 0, ("end", 2), reach_book(FIND, ("end", 1))), False)
        one_way = program(("case", UP, ("seq", UP, DOWN)))
        self.assertIs(is_closed(one_way, 1, ("end", 2), reach_book(one_way, ("end", 2))), True)
        self.assertIs(is_closed(one_way, 0, ("end", 2), reach_book(one_way, ("end", 2))), False)
        self.assertIs(is_supported(one_way, 0, ("end", 2), keep_book(one_way, ("end", 2))), True)
        self.assertIs(is_supported(one_way, 1, ("end", 2), keep_book(one_way, ("end", 2))), False)

    def test_values_of_all_kinds(self):
        for judge in JUDGES.values():
            for value in wrong_values() + [({},), ({}, {}), ({MAIN: [0, 0, 0, 0]},), ({MAIN: SAME}, None), ({MAIN: SAME}, [])]:
                for goal in (("end", 0), ("end", 3), ("deed", "use"), ("signal", "need")):
                    self.assertIs(judge(GIVE, 0, goal, value), False)

    def test_wrong_arguments(self):
        for judge in JUDGES.values():
            refused_questions(self, judge, None)

    def test_nothing_is_changed(self):
        maker = Maker(107)
        for _ in range(30):
            one = maker.program(loops=True, depth=3)
            goal = any_goal(one, maker.dice)
            for kind, value in papers(one, 0, goal):
                before = copy.deepcopy(value)
                JUDGES[kind](one, 0, goal, value)
                self.assertEqual(value, before)
                rows = [value] if kind in ("closed", "supported") else value
                for row in rows:
                    row.clear()
                self.assertIn((kind, before), papers(one, 0, goal))


class Papers(unittest.TestCase):
    def test_climb_and_fall(self):
        self.assertEqual(climb(GIVE, 0, ("end", 2)), ({GIVEN: (0, 0, 3, 3)}, {MAIN: (0, 0, 3, 3)}))
        self.assertEqual(fall(GIVE, 0, ("end", 1)), ({GIVEN: (0, 0, 3, 3)}, {MAIN: (0, 0, 3, 3)}))
        self.assertIsNone(climb(GIVE, 0, ("end", 1)))
        self.assertIsNone(fall(GIVE, 0, ("end", 2)))
        self.assertIsNone(climb(TICK, 0, ("end", 1)))
        self.assertIsNone(fall(TICK, 0, ("end", 0)))
        self.assertEqual(climb(TICK, 0, ("deed", "tick")), ({MAIN: (1, 1)},))

    def counter(self, through):
        """Three blocks count in threes, and main ends in 2 behind 27 states; all calls go through so many procedures."""
        go, zero, blocks = ("do", "go", (1, 2, 0)), ("do", "zero", (0, 0, 0)), (RUN_X, ("run", "y"), ("run", "z"))
        rows = [Procedure("d", ("x", "y", "z"), NOTHING)]
        for place in range(3):
            more = tuple(("seq", block, go) if at == place else block for at, block in enumerate(blocks))
            carry = tuple(zero if at <= place else block for at, block in enumerate(blocks))
            on = ("call", "ea" if through else "a") + more
            ways = ("case", on, on, ("call", "abcd"[place + 1]) + carry)
            rows.append(Procedure("abc"[place], ("x", "y", "z"), ("seq", zero, blocks[place], ways)))
        for at in range(through):
            following = "a" if at == through - 1 else "e" + "abc"[at + 1]
            rows.append(Procedure("e" + "abc"[at], ("x", "y", "z"), ("call", following) + blocks))
        return program(("call", "a", zero, zero, zero), *rows, modes=3)

    def test_far_away(self):
        for through in (0, 1, 3):
            one = self.counter(through)
            up, down = climb(one, 0, ("end", 4)), fall(one, 0, ("end", 3))
            self.assertIs(is_climb(one, 0, ("end", 4), up), True)
            self.assertIs(is_fall(one, 0, ("end", 3), down), True)
            self.assertEqual((len(up), len(down)), (41 + 26 * through,) * 2)
            self.assertLessEqual(max(sum(map(len, up)), sum(map(len, down))), 800)
            self.assertIsNone(climb(one, 0, ("end", 3)))
            self.assertIsNone(fall(one, 0, ("end", 4)))

    def test_wrong_arguments(self):
        for found in (climb, fall):
            refused_questions(self, found)
            refused(self, InvalidNumber, lambda: found(swarm("or"), 3, ("end", 1)), keeps=("value", 3))
            refused(self, InvalidGoal, lambda: found(swarm("or"), 2, ("end", 8)))
            refused(self, TooMany, lambda: found(swarm("or"), 2, ("end", 1)), keeps=("limit", 800))
        for found in (reach_book, keep_book):
            refused_goals(self, found)
            refused(self, InvalidGoal, lambda: found(swarm("or"), ("signal", "need")))


class Many(unittest.TestCase):
    def test_the_limit(self):
        self.assertEqual(books.MAX_CONTEXTS, 800)
        for side in ("or", "and"):
            for found in (reach_book, keep_book):
                self.assertEqual(len(found(crowd(side), ("end", 1))), 800)
                for last in (2, 3):
                    refused(self, TooMany, lambda: found(crowd(side, last=last), ("end", 1)), keeps=("limit", 800))
                refused(self, TooMany, lambda: found(swarm(side), ("end", 1)), keeps=("limit", 800))

    def test_near_the_limit_in_a_short_time(self):
        begin = time.monotonic()
        for side in ("or", "and"):
            one = crowd(side)
            for mode in range(3):
                for kind, value in papers(one, mode, ("end", 1)):
                    self.assertIs(JUDGES[kind](one, mode, ("end", 1), value), True)
        self.assertLess(time.monotonic() - begin, 60)


class Examples(unittest.TestCase):
    def test_examples(self):
        now, ever = ("each", ((0, 0, 0, 0),), ()), ("each", ((3, 3, 3, 3),), ())
        self.assertEqual(
            [reach_book(FIND, ("end", 2)) == {now: (0, 0, 0, 0), ever: (3, 3, 3, 3), ("main", (), ()): (0, 0, 3, 3)},
             least_map(GIVE, GIVEN, ("deed", "use")), greatest_map(TICK, ("main", (), ()), ("end", 0)),
             reach_book(TICK, ("end", 1))],
            [True, (3, 3, 3, 3), (1, 1), {("main", (), ()): (0, 0)}],
        )
        self.assertEqual(
            [is_closed(FIND, 0, ("end", 1), reach_book(FIND, ("end", 1))),
             is_climb(GIVE, 0, ("end", 2), ({GIVEN: (0, 0, 3, 3)}, {("main", (), ()): (0, 0, 3, 3)})),
             is_fall(GIVE, 0, ("end", 1), ({GIVEN: (0, 0, 3, 3)}, {("main", (), ()): (0, 0, 3, 3)})),
             is_supported(TICK, 0, ("end", 0), {("main", (), ()): (1, 1)}), climb(TICK, 0, ("end", 1))],
            [True, True, True, True, None],
        )


if __name__ == "__main__":
    unittest.main()
