"""Stage 15: procedures for all callers."""

import copy
import itertools
import unittest

from handedworld.ask.goals import kept, reached
from handedworld.base.procedures import Procedure
from handedworld.base.programs import Program
from handedworld.errors import InvalidMeaning, InvalidNumber, InvalidOperation, InvalidProgram, TooMany, UnknownName
from handedworld.maps.spaces import Space
from handedworld.reckon.books import greatest_map, least_map
from handedworld.same.editions import exchanged
from handedworld.same.entries import are_alike, caller_of, entries_of, is_telling, is_within, telling
from handedworld.same.made import block_of
from samples import FIND, GIVE, Maker, is_int, is_word, refused, swarm, wrong_values
from tellings import SPACES, closed_book, free_signals, from_there_on, map_is_within, members

NOTHING = ("seq",)
UP = ("do", "up", (1, 1))
FLIP = ("do", "flip", (1, 0))
BAR = ("do", "bar", (None, None))
RUN_X = ("run", "x")
NEVER, ALWAYS, SAME, FLIPPED = (0, 0, 0, 0), (3, 3, 3, 3), (0, 1, 2, 3), (0, 2, 1, 3)
ONCE = Procedure("once", ("b",), ("run", "b"))
TWICE = Procedure("twice", ("b",), ("seq", ("run", "b"), ("run", "b")))
LOOP = Procedure("loop", (), ("call", "loop"))
STUCK = Procedure("stuck", (), ("do", "go", (None, None)))
FOUR = Program(2, (), Procedure("main", (), ("seq",)), ONCE, TWICE, LOOP, STUCK)


def program(body, *rows, signals=(), modes=2):
    return Program(modes, signals, Procedure("main", (), body), *rows)


def told_entries(one, name, keep):
    """The entries, each by the map of its context alone."""
    maps = SPACES[one.modes].maps
    tell = greatest_map if keep else least_map
    rows = itertools.product(maps, repeat=len(one[name].parameters))
    return {row: tell(one, (name, row, ()), ("end", 0)) for row in rows}


def plain_names(one):
    return [name for name in one.names if not free_signals(one, name)]


def tellable(one):
    """The names of the plain procedures that have no more than 800 tuples of maps."""
    return [name for name in plain_names(one) if len(SPACES[one.modes].maps) ** len(one[name].parameters) <= 800]


class Entries(unittest.TestCase):
    def test_examples(self):
        self.assertEqual(
            [len(entries_of(FOUR, "twice")), entries_of(FOUR, "twice")[((0, 2, 1, 3),)], entries_of(FOUR, "loop"),
             entries_of(FOUR, "loop", keep=True)],
            [36, (0, 1, 2, 3), {(): (0, 0, 0, 0)}, {(): (3, 3, 3, 3)}],
        )

    def test_against_the_maps_of_contexts(self):
        maker = Maker(151)
        seen = set()
        for turn in range(60):
            one = maker.program(depth=3, loops=turn % 3 > 0, modes=(1, 2, 2, 3)[turn % 4])
            for name in tellable(one):
                for keep in (False, True):
                    found = entries_of(one, name, keep=keep)
                    self.assertEqual(list(found), sorted(found))
                    self.assertEqual(found, told_entries(one, name, keep))
                seen.add((one.modes, len(one[name].parameters)))
        self.assertTrue({(1, 0), (1, 1), (1, 2), (2, 0), (2, 1), (3, 0)} <= seen)

    def test_against_reckoning_again_and_again(self):
        maker = Maker(152)
        for turn in range(40):
            one = maker.program(depth=3, loops=True, modes=(1, 2)[turn % 2])
            for name in tellable(one):
                row = maker.dice.choice(sorted(entries_of(one, name)))
                for keep in (False, True):
                    book = closed_book(one, (name, row, ()), ("end", 0), keep)
                    self.assertEqual(entries_of(one, name, keep=keep)[row], book[(name, row, ())])

    def test_kinds_of_procedures(self):
        """Procedures that call themselves, main, one another, and that hand blocks on."""
        rows = (
            Procedure("self", ("x",), ("or", RUN_X, ("seq", FLIP, ("call", "self", ("seq", RUN_X, FLIP))))),
            Procedure("home", (), ("seq", FLIP, ("call", "main"))),
            Procedure("one", ("x",), ("or", RUN_X, ("call", "other", ("seq", RUN_X, UP)))),
            Procedure("other", ("y",), ("and", ("run", "y"), ("call", "one", ("run", "y")))),
            Procedure("hands", ("x",), ("call", "other", ("call", "self", RUN_X))),
            Procedure("leaves", ("x",), ("scope", "l", ("call", "self", ("seq", RUN_X, ("exit", "l"))))),
            Procedure("heard", ("x",), ("answer", (("s", RUN_X),), ("raise", "s"))),
        )
        one = program(("or", NOTHING, ("call", "home")), *rows, signals=("s",))
        for row in rows:
            for keep in (False, True):
                self.assertEqual(entries_of(one, row.named, keep=keep), told_entries(one, row.named, keep))
        self.assertEqual(entries_of(one, "heard")[(FLIPPED,)], FLIPPED)
        self.assertEqual(entries_of(one, "main"), {(): (0, 3, 3, 3)})
        self.assertEqual(entries_of(one, "home"), {(): (0, 3, 3, 3)})
        self.assertEqual(entries_of(one, "home", keep=True), {(): (3, 3, 3, 3)})
        self.assertEqual(entries_of(one, "leaves")[((0, 0, 3, 3),)], (0, 0, 3, 3))

    def test_one_mode_and_three(self):
        one = program(NOTHING, Procedure("p", ("x", "y", "z"), ("or", ("seq", RUN_X, ("run", "y")), ("run", "z"))), modes=1)
        found = entries_of(one, "p")
        self.assertEqual(len(found), 27)
        self.assertEqual([found[((0, 1), (0, 0), (1, 1))], found[((1, 1), (0, 0), (0, 0))], found[((0, 1), (1, 1), (0, 0))]], [(1, 1), (1, 1), (1, 1)])
        self.assertEqual(found[((0, 1), (0, 1), (0, 0))], (0, 1))
        three = program(NOTHING, Procedure("p", (), ("do", "a", (1, 2, None))), modes=3)
        self.assertEqual(entries_of(three, "p"), {(): (0, 0, 1, 1, 2, 2, 3, 3)})

    def test_main_too(self):
        self.assertEqual(entries_of(GIVE, "main"), {(): (0, 0, 3, 3)})
        self.assertEqual(entries_of(FIND, "main"), {(): (0, 0, 3, 3)})

    def test_wrong_arguments(self):
        for value in wrong_values():
            if type(value) is not Program:
                refused(self, InvalidProgram, lambda: entries_of(value, None, keep=None))
            if not is_word(value) or value not in FOUR:
                refused(self, UnknownName, lambda: entries_of(FOUR, value, keep=None), keeps=("name", value))
            if type(value) is not bool:
                refused(self, InvalidOperation, lambda: entries_of(FOUR, "once", keep=value))
                # What is not plain comes behind, with the same error; what is too much comes last.
                refused(self, InvalidOperation, lambda: entries_of(grown("or", 2), "both", keep=value))
        refused(self, InvalidOperation, lambda: entries_of(GIVE, "work"))
        for keep in (0, 1, None):
            refused(self, InvalidOperation, lambda: entries_of(FOUR, "loop", keep=keep))

    def test_what_is_not_plain(self):
        deaf = Procedure("both", ("x", "y"), ("raise", "s"))
        one = program(NOTHING, deaf, Procedure("by", ("x",), ("call", "both", RUN_X, RUN_X)), signals=("s",))
        for name in ("both", "by"):
            refused(self, InvalidOperation, lambda: entries_of(one, name))
        self.assertEqual(len(entries_of(one.with_procedure(Procedure("both", ("x", "y"), RUN_X)), "by")), 36)

    def test_nothing_is_changed(self):
        found = entries_of(FOUR, "once")
        found.clear()
        self.assertEqual(len(entries_of(FOUR, "once")), 36)


HALF = ("do", "half", (None, 0))
STEPS = (FLIP, ("or", HALF, NOTHING), ("and", HALF, ("do", "other", (None, 1))))


def grown(side, more):
    """A program whose procedure "p" needs 799 contexts and so many more.

    These are 36 of p, of t and of u, 36 times 19 of r, which makes 19 maps of nothing, one of "few", and those of s.
    """
    calls = [("call", "r", RUN_X, ("seq", ("run", "y"), one)) for one in STEPS]
    tables = [(one, other) for one in (None, 0, 1) for other in (None, 0, 1)]
    return program(
        NOTHING,
        Procedure("p", ("x",), (side, RUN_X, ("call", "r", RUN_X, NOTHING), ("call", "t", RUN_X))),
        Procedure("r", ("x", "y"), (side, RUN_X, ("run", "y"), *calls)),
        Procedure("t", ("x",), (side, RUN_X, ("call", "u", RUN_X))),
        Procedure("u", ("x",), (side, RUN_X, ("call", "few"))),
        Procedure("few", (), (side, *[("call", "s", ("do", "go", table)) for table in tables[: 6 + more]])),
        Procedure("s", ("x",), RUN_X),
        Procedure("small", ("x",), RUN_X),
        Procedure("both", ("x", "y"), RUN_X),
    )


class Limits(unittest.TestCase):
    def test_tuples(self):
        both = Procedure("both", ("x", "y"), RUN_X)
        two = program(NOTHING, both, Procedure("one", ("x",), RUN_X), Procedure("by", ("x",), ("call", "both", RUN_X, RUN_X)))
        refused(self, TooMany, lambda: entries_of(two, "both"), keeps=("limit", 800))
        self.assertEqual(len(entries_of(two, "one")), 36)
        self.assertEqual(len(entries_of(two, "by")), 36)
        three = program(NOTHING, Procedure("one", ("x",), RUN_X), modes=3)
        refused(self, TooMany, lambda: entries_of(three, "one"), keeps=("limit", 800))
        refused(self, TooMany, lambda: are_alike(three, "one", "one"), keeps=("limit", 800))
        refused(self, TooMany, lambda: telling(two, "both", "both", keep=True), keeps=("limit", 800))
        refused(self, TooMany, lambda: is_within(two, "both", "both"), keeps=("limit", 800))
        refused(self, TooMany, lambda: is_telling(two, "both", "both", None), keeps=("limit", 800))
        self.assertEqual(len(entries_of(program(NOTHING, Procedure("p", ("x", "y", "z"), RUN_X), modes=1), "p")), 27)

    def test_contexts(self):
        for side, keep, more in (("or", False, 0), ("and", True, 1), ("or", True, 1), ("and", False, 1)):
            one = grown(side, more)
            # There are no calls in what is handed, so what is needed does not depend on maps.
            rows = [("p", (row,), ()) for row in Space(2).maps]
            self.assertEqual(len(set().union(*(from_there_on(one, row, ("end", 0), {}) for row in rows[::9]))) + 32 * 22, 799 + more)
            self.assertEqual(len(entries_of(one, "p", keep=keep)), 36)
        for side in ("or", "and"):
            for keep in (False, True):
                refused(self, TooMany, lambda: entries_of(grown(side, 2), "p", keep=keep), keeps=("limit", 800))

    def test_for_each_of_two(self):
        one = grown("and", 2)
        for pair in (("small", "p"), ("p", "small"), ("p", "p")):
            for call in (are_alike, is_within, telling):
                refused(self, TooMany, lambda: call(one, *pair), keeps=("limit", 800))
            refused(self, TooMany, lambda: is_telling(one, *pair, None), keeps=("limit", 800))
        # Each of both counts alone.
        fits = grown("and", 1)
        self.assertEqual([is_within(fits, "p", "small"), is_within(fits, "small", "p")], [True, False])

    def test_far_too_many(self):
        for keep in (False, True):
            refused(self, TooMany, lambda: entries_of(swarm("or"), "main", keep=keep), keeps=("limit", 800))


# -- comparing two procedures --


def fault(one, names, keep):
    """The error that a comparison has to raise and what it keeps, or None; what is too much is not looked at."""
    for name in names:
        if name not in one.names:
            return UnknownName, ("name", name)
    if type(keep) is not bool:
        return InvalidOperation, None
    if any(free_signals(one, name) for name in names):
        return InvalidOperation, None
    if len(one[names[0]].parameters) != len(one[names[1]].parameters):
        return InvalidOperation, None
    return None


class Pairs(unittest.TestCase):
    def test_examples(self):
        self.assertEqual(
            [are_alike(FOUR, "loop", "stuck"), are_alike(FOUR, "loop", "stuck", keep=True),
             is_within(FOUR, "stuck", "loop", keep=True), are_alike(FOUR, "once", "twice")],
            [True, False, True, False],
        )
        self.assertEqual(
            [is_telling(FOUR, "once", "twice", (((0, 2, 1, 3),), 1, 1)), is_telling(FOUR, "once", "twice", (((0, 2, 1, 3),), 3, 1)),
             telling(FOUR, "once", "once")],
            [True, False, None],
        )

    def test_against_entries(self):
        maker = Maker(153)
        seen = {}
        for turn in range(90):
            one = maker.program(depth=3, loops=turn % 3 > 0, modes=(1, 2)[turn % 2], signals=((), ("hey",))[turn % 5 == 0])
            names = tellable(one)
            pairs = [(name, other) for name in names for other in names if len(one[name].parameters) == len(one[other].parameters)]
            for pair in pairs:
                for keep in (False, True):
                    entries, others = [entries_of(one, name, keep=keep) for name in pair]
                    alike = entries == others
                    within = all(map_is_within(entries[row], others[row]) for row in entries)
                    self.assertIs(are_alike(one, *pair, keep=keep), alike)
                    self.assertIs(is_within(one, *pair, keep=keep), within)
                    told = telling(one, *pair, keep=keep)
                    self.assertIs(told is None, alike)
                    if told is not None:
                        maps, good, mode = told
                        self.assertTrue(mode in members(entries[maps][good]) ^ members(others[maps][good]))
                        self.assertIs(is_telling(one, *pair, told, keep=keep), True)
                    seen[(keep, alike, within, pair[0] == pair[1])] = True
        self.assertEqual(len(seen), 8)

    def test_which_values_tell(self):
        maker = Maker(154)
        tells = {True: 0, False: 0}
        for turn in range(60):
            one = maker.program(depth=3, loops=True, modes=(1, 2)[turn % 2], signals=())
            names = tellable(one)
            pairs = [(name, other) for name in names for other in names if len(one[name].parameters) == len(one[other].parameters)]
            pair = maker.dice.choice(pairs)
            keep = turn % 4 > 1
            entries, others = [entries_of(one, name, keep=keep) for name in pair]
            rows = sorted(entries)
            for _ in range(6):
                maps, good, mode = maker.dice.choice(rows), maker.dice.randrange(2**one.modes), maker.dice.randrange(one.modes)
                expected = mode in members(entries[maps][good]) ^ members(others[maps][good])
                self.assertIs(is_telling(one, *pair, (maps, good, mode), keep=keep), expected)
                tells[expected] += 1
        self.assertGreater(min(tells.values()), 20)

    def test_near_values(self):
        right = (((0, 2, 1, 3),), 1, 1)
        self.assertIs(is_telling(FOUR, "once", "twice", right), True)
        self.assertIs(is_telling(FOUR, "twice", "once", right), True)
        self.assertIs(is_telling(FOUR, "once", "once", right), False)
        for value in (
            list(right), (list(right[0]), 1, 1), (([0, 2, 1, 3],), 1, 1), ((0, 2, 1, 3), 1, 1), right + (0,), right[:2], (right,),
            (((0, 2, 1, 3),), True, 1), (((0, 2, 1, 3),), 1, True), (((0, 2, 1, 3),), 1, 2), (((0, 2, 1, 3),), 4, 1), (((0, 2, 1, 3),), -1, 1),
            (((0, 2, 1, 3),), 1, -1), (((0, 2, 1, 3),), None, 1), (((0, 2, 1, 3),), 1, None), ((), 1, 1), (((0, 2, 1, 3), SAME), 1, 1),
            (((0, 2, 1, 0),), 1, 1), (((0, 2, 1),), 1, 1), (((0, 2, True, 3),), 1, 1), (((0, 2, 1, 4),), 1, 1), (None, 1, 1), ({(0, 2, 1, 3): 0}, 1, 1),
            (((0, 2, 1, 3),), 1, 0, None), (((0, 2, 1, 3),), 0, 1), (((0, 2, 1, 3),), 3, 0),
        ):
            self.assertIs(is_telling(FOUR, "once", "twice", value), False, value)
        self.assertIs(is_telling(FOUR, "loop", "stuck", ((), 0, 0)), False)
        self.assertIs(is_telling(FOUR, "loop", "stuck", ((), 0, 0), keep=True), True)
        for value in wrong_values():
            self.assertIs(is_telling(FOUR, "once", "twice", value), False)
            self.assertIs(is_telling(FOUR, "once", "twice", (value, 1, 1)), False)
            self.assertIs(is_telling(FOUR, "once", "twice", ((value,), 1, 1)), value == FLIPPED)
            self.assertIs(is_telling(FOUR, "once", "twice", (((0, 2, 1, 3),), value, 1)), is_int(value) and value in (1, 2))
            self.assertIs(is_telling(FOUR, "once", "twice", (((0, 2, 1, 3),), 1, value)), is_int(value) and value in (0, 1))

    def test_wrong_arguments(self):
        calls = (are_alike, is_within, telling, lambda one, name, other, **more: is_telling(one, name, other, None, **more))
        deaf = Procedure("deaf", ("x",), ("raise", "s"))
        one = program(NOTHING, ONCE, TWICE, LOOP, deaf, Procedure("both", ("x", "y"), RUN_X), signals=("s",))
        for call in calls:
            for value in wrong_values():
                if type(value) is not Program:
                    refused(self, InvalidProgram, lambda: call(value, None, None, keep=None))
                if not is_word(value) or value not in one:
                    refused(self, UnknownName, lambda: call(one, value, None, keep=None), keeps=("name", value))
                    refused(self, UnknownName, lambda: call(one, "loop", value, keep=None), keeps=("name", value))
                if type(value) is not bool:
                    refused(self, InvalidOperation, lambda: call(one, "once", "loop", keep=value))
            for name in one.names + ("none", "other"):
                for other in one.names + ("none",):
                    for keep in (False, True, 0, None):
                        expected = fault(one, (name, other), keep)
                        if expected is not None:
                            refused(self, expected[0], lambda: call(one, name, other, keep=keep), keeps=expected[1])
            refused(self, TooMany, lambda: call(one, "both", "both"), keeps=("limit", 800))
            # Unequally many parameters come ahead of what is too much.
            refused(self, InvalidOperation, lambda: call(one, "both", "once"))


class Promised(unittest.TestCase):
    """What [15.1] and [15.2] say of procedures that are alike."""

    def test_callers_of_what_is_within(self):
        """In a main procedure that nobody calls, the modes grow, or stay, with the procedure that is called."""
        maker = Maker(155)
        bodies = [RUN_X, NOTHING, ("seq", RUN_X, RUN_X), ("or", RUN_X, NOTHING), ("and", RUN_X, NOTHING), ("seq", ("or", RUN_X), NOTHING)]
        bodies += [("call", "a", RUN_X), ("or", RUN_X, ("seq", RUN_X, FLIP)), ("scope", "l", ("seq", RUN_X, ("exit", "l"), BAR))]
        rows = [Procedure(name, ("x",), body) for name, body in zip("abcdefghi", bodies)]
        world = {"modes": 2, "signals": (), "sure": False, "labels": (), "bans": (), "blocks": (), "calls": tuple((row.named, 1) for row in rows)}
        alike = grows = 0
        for _ in range(240):
            one = program(maker.body(5, world), *rows)
            name, other = maker.dice.choice(one["main"].uses or ("a",)), maker.dice.choice("acdefgi")
            two = one.with_procedure(exchanged(one, name, other)["main"])
            for keep, modes in ((False, reached), (True, kept)):
                is_alike, within = are_alike(one, name, other, keep=keep), is_within(one, name, other, keep=keep)
                for good in range(4):
                    old, new = modes(one, ("end", good)), modes(two, ("end", good))
                    if is_alike:
                        self.assertEqual(old, new)
                        alike += one != two
                    elif within:
                        self.assertEqual(old | new, new)
                        grows += old != new
        self.assertGreater(min(alike, grows), 10)

    def test_what_tells_is_shown_by_a_caller(self):
        maker = Maker(156)
        many = 0
        for turn in range(60):
            one = maker.program(depth=3, loops=turn % 2 == 0, modes=(1, 2)[turn % 2], signals=())
            names = [name for name in tellable(one) if name != "main"]
            for name in names:
                for other in names:
                    if len(one[name].parameters) != len(one[other].parameters):
                        continue
                    for keep, modes in ((False, reached), (True, kept)):
                        told = telling(one, name, other, keep=keep)
                        if told is None or uses_main(one, name) or uses_main(one, other):
                            continue
                        maps, good, mode = told
                        every = 2**one.modes - 1
                        sets = [modes(caller_of(one, called, maps, good), ("end", every)) for called in (name, other)]
                        self.assertTrue(mode in members(sets[0]) ^ members(sets[1]))
                        many += 1
        self.assertGreater(many, 20)

    def test_what_is_not_true(self):
        self.assertEqual([are_alike(FOUR, "loop", "stuck", keep=keep) for keep in (False, True)], [True, False])
        rows = (
            Procedure("few", (), UP), Procedure("mine", (), ("or", UP, FLIP)), Procedure("theirs", (), ("and", UP, FLIP)),
            Procedure("one", (), ("or", NOTHING, ("seq", FLIP, ("call", "other")))),
            Procedure("other", (), ("or", NOTHING, ("seq", FLIP, ("call", "one")))),
        )
        one = program(("call", "one"), *rows)
        # One branch more of the other side is a procedure that is within; one more of the own side is around.
        self.assertEqual([is_within(one, "few", "mine"), is_within(one, "mine", "few")], [True, False])
        self.assertEqual([is_within(one, "theirs", "few"), is_within(one, "few", "theirs")], [True, False])
        # Two that call one another are alike, and lose what they do when all calls are exchanged.
        self.assertTrue(are_alike(one, "one", "other"))
        same = Program(2, (), *one.procedures[:1], rows[3], Procedure("other", (), ("or", NOTHING, FLIP)))
        self.assertTrue(are_alike(same, "one", "other"))
        again = exchanged(same, "other", "one")
        self.assertEqual((reached(same, ("end", 1)), reached(again, ("end", 1))), (3, 3))
        self.assertEqual((kept(same, ("end", 0)), kept(again, ("end", 0))), (0, 3))


def uses_main(one, name):
    """Whether a procedure is main, or uses it, also by others."""
    seen, ahead = {name}, [name]
    while ahead:
        for other in one[ahead.pop()].uses:
            if other not in seen:
                seen.add(other)
                ahead.append(other)
    return "main" in seen


class Callers(unittest.TestCase):
    def shows(self, one, name, maps, good):
        """Whether the caller has, for both, the modes of the procedure's map; nothing else is changed."""
        caller = caller_of(one, name, maps, good)
        every = 2**one.modes - 1
        context = (name, maps, ())
        self.assertEqual(reached(caller, ("end", every)), least_map(one, context, ("end", 0))[good])
        self.assertEqual(kept(caller, ("end", every)), greatest_map(one, context, ("end", 0))[good])
        self.assertEqual((caller.modes, caller.signals), (one.modes, one.signals))
        self.assertEqual([row.named for row in caller.procedures], [row.named for row in one.procedures])
        for row in one.procedures:
            if row.named != "main":
                self.assertEqual(caller[row.named], row)

    def test_examples(self):
        self.assertEqual(
            [reached(caller_of(FOUR, "twice", ((0, 2, 1, 3),), 1), ("end", 3)), reached(caller_of(FOUR, "once", ((0, 2, 1, 3),), 1), ("end", 3))],
            [1, 2],
        )

    def test_all_maps_of_one_parameter(self):
        swap = Procedure("swap", ("x",), ("or", ("seq", RUN_X, FLIP, RUN_X), ("call", "swap", ("seq", RUN_X, UP))))
        one = FOUR.with_procedure(swap)
        for name in ("once", "twice", "swap"):
            for wanted in Space(2).maps:
                for good in range(4):
                    self.shows(one, name, (wanted,), good)

    def test_drawn_programs(self):
        maker = Maker(157)
        seen = set()
        for turn in range(150):
            one = maker.program(depth=3, loops=turn % 2 == 0, modes=(1, 2, 3)[turn % 3])
            name = maker.dice.choice(one.names)
            if name in plain_names(one) and not uses_main(one, name) and (one.modes < 3 or not one[name].parameters):
                maps = tuple(maker.dice.choice(SPACES[one.modes].maps) for _ in one[name].parameters)
                self.shows(one, name, maps, maker.dice.randrange(2**one.modes))
                seen.add((one.modes, len(maps)))
            else:
                refused(self, InvalidOperation, lambda: caller_of(one, name, None, None))
        self.assertTrue({(1, 0), (1, 1), (2, 0), (2, 1), (2, 2), (3, 0)} <= seen)

    def test_three_parameters_with_long_blocks(self):
        """The longest blocks, three at once."""
        longest = sorted(Space(2).maps, key=lambda one: -len(str(block_of(2, one))))[:4]
        rows = Procedure("p", ("x", "y", "z"), ("seq", RUN_X, ("or", ("run", "y"), ("run", "z"))))
        one = program(NOTHING, rows)
        for maps in itertools.product(longest, repeat=3):
            self.shows(one, "p", maps, 1)

    def test_those_that_call_main_stay(self):
        home = Procedure("home", (), ("call", "main"))
        one = program(("call", "home"), home, ONCE, Procedure("ask", (), ("raise", "s")), signals=("s",))
        self.shows(one, "once", (FLIPPED,), 2)
        self.assertEqual(caller_of(one, "once", (FLIPPED,), 2)["home"], home)

    def test_wrong_arguments(self):
        rows = (
            ONCE, LOOP, Procedure("home", (), ("call", "main")), Procedure("far", ("x",), ("or", RUN_X, ("call", "away"))),
            Procedure("away", (), ("scope", "l", ("call", "home"))), Procedure("deaf", ("x",), ("raise", "s")),
            Procedure("hides", ("x",), ("call", "once", ("answer", (("s", ("call", "main")),), NOTHING))),
        )
        one = program(NOTHING, *rows, signals=("s",))
        three = program(NOTHING, ONCE, LOOP, modes=3)
        for value in wrong_values():
            if type(value) is not Program:
                refused(self, InvalidProgram, lambda: caller_of(value, None, None, None))
            if not is_word(value) or value not in one:
                refused(self, UnknownName, lambda: caller_of(one, value, None, None), keeps=("name", value))
            if type(value) is not tuple or len(value) != 1:
                refused(self, InvalidMeaning, lambda: caller_of(one, "once", value, None))
            if value != ():
                refused(self, InvalidMeaning, lambda: caller_of(one, "loop", value, None))
            if value not in Space(2):
                refused(self, InvalidMeaning, lambda: caller_of(one, "once", (value,), None))
            if not is_int(value) or not 0 <= value < 4:
                refused(self, InvalidNumber, lambda: caller_of(one, "once", (SAME,), value), keeps=("value", value))
        for name in ("main", "home", "far", "away", "deaf", "hides"):
            refused(self, InvalidOperation, lambda: caller_of(one, name, None, None))
            refused(self, InvalidOperation, lambda: caller_of(one, name, (SAME,), 1))
        refused(self, InvalidOperation, lambda: caller_of(three, "once", (tuple(range(8)),), 8))
        self.shows(three, "loop", (), 5)
        refused(self, InvalidNumber, lambda: caller_of(three, "loop", (), 8), keeps=("value", 8))
        for maps in ((), (SAME, SAME), [SAME], (list(SAME),), ((3, 0, 0, 0),), ((0, 1, 2, 3, 0, 0, 0, 0),), None):
            refused(self, InvalidMeaning, lambda: caller_of(one, "once", maps, 9))

    def test_nothing_is_changed(self):
        before = copy.deepcopy(FOUR)
        caller_of(FOUR, "twice", (SAME,), 1)
        self.assertEqual(FOUR, before)


if __name__ == "__main__":
    unittest.main()
