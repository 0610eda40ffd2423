"""The whole document: names and arguments of the interface, [0.1] to [0.6] for all of it, and [0.14] over drawn programs."""

import copy
import importlib
import inspect
import unittest

from handedworld import errors
from handedworld.ask.duels import Duel
from handedworld.ask.goals import is_goal, is_keep_paper, is_reach_paper, keep_paper, kept, reach_paper, reached
from handedworld.base.procedures import Procedure, is_term
from handedworld.base.programs import Program
from handedworld.base.words import is_name
from handedworld.errors import InvalidOperation
from handedworld.events.forward import forward_book, lasting_sets
from handedworld.house.desk import Desk
from handedworld.maps.rounds import is_additive, is_making
from handedworld.maps.spaces import Space
from handedworld.reckon.books import greatest_map, is_climb, is_closed, is_fall, is_supported, keep_book, least_map, reach_book
from handedworld.reckon.terms import is_context, needed, reckoned
from handedworld.runs.runs import Run, each_run
from handedworld.same.editions import exchanged, needless_terms
from handedworld.same.entries import caller_of, entries_of, is_telling, telling
from handedworld.sides.turned import is_sure_footed, other_paper, other_side, put_together
from handedworld.signals.charts import Ride, is_chart, led_in
from handedworld.signals.free import free_signals, signals_out
from handedworld.signals.led import led
from handedworld.text.shell import Shell
from handedworld.text.texts import read_program, write_program
from handedworld.unused.met import is_met_paper, met_paper, met_places
from handedworld.unused.places import is_place, places, probe
from handedworld.unused.trim import idle_answers, idle_scopes, trimmed
from samples import CHANCE, FIND, GIVE, Maker, TICK, refused, wrong_values
from tellings import SPACES, any_context, forces, goals_of, map_is_within, members

# For each module its names: functions with their parameters, classes with their methods and properties, and constants.
INTERFACE = {
    "base.words": {"is_name": "(value)"},
    "base.procedures": {
        "MAX_PARAMETERS": 3, "MAX_DEPTH": 6, "MAX_TERMS": 40, "is_term": "(value, parameters)",
        "Procedure": {"__init__": "(self, name, parameters, body)", "properties": "named parameters body words signals labels uses", "__len__": "(self)", "__eq__": "(self, other)", "__str__": "(self)"},
    },
    "base.programs": {
        "MAX_PROCEDURES": 10,
        "Program": {
            "__init__": "(self, modes, signals, *procedures)", "of": "(modes, signals, procedures)", "properties": "modes signals procedures names words sides",
            "with_procedure": "(self, procedure)", "without": "(self, name)", "with_signals": "(self, signals)", "__getitem__": "(self, at)", "__len__": "(self)",
            "__contains__": "(self, value)", "__eq__": "(self, other)", "__str__": "(self)",
        },
    },
    "runs.runs": {
        "MAX_STEPS": 1000, "each_run": "(program, start, most, *, until=None)",
        "Run": {
            "__init__": "(self, program, start, *choices, until=None)", "of": "(program, start, choices, *, until=None)",
            "properties": "program start choices until state mode words modes steps side options signal scopes", "chosen": "(self, *more)", "begun": "(self, many)",
            "__len__": "(self)", "__eq__": "(self, other)", "__str__": "(self)",
        },
    },
    "maps.spaces": {
        "Space": {
            "__init__": "(self, modes)", "properties": "modes full maps same never always", "is_set": "(self, value)", "is_map": "(self, value)", "is_monotone": "(self, value)",
            "__contains__": "(self, value)", "members": "(self, number)", "others": "(self, number)", "set_of": "(self, members)", "followed": "(self, one, other)",
            "either": "(self, *maps)", "both": "(self, *maps)", "is_within": "(self, one, other)", "opposite": "(self, one)", "least_sets": "(self, one, mode)",
            "greatest_sets": "(self, one, mode)", "map_of": "(self, rows)", "__eq__": "(self, other)", "__str__": "(self)",
        },
    },
    "maps.rounds": {
        "can_map": "(modes, pairs)", "must_map": "(modes, pairs)", "is_additive": "(modes, value)", "pairs_of": "(modes, one)",
        "rounds": "(modes, one, *, theirs=False, keep=False)", "is_making": "(modes, value)", "settled": "(modes, making, *, keep=False)",
    },
    "reckon.terms": {
        "is_context": "(program, value)", "beginning": "(program, goal)", "reckoned": "(program, context, goal, book, *, rest=0)",
        "needed": "(program, context, goal, book, *, rest=0)",
    },
    "reckon.books": {
        "MAX_CONTEXTS": 800, "reach_book": "(program, goal)", "keep_book": "(program, goal)", "least_map": "(program, context, goal)",
        "greatest_map": "(program, context, goal)", "is_closed": "(program, start, goal, value)", "is_supported": "(program, start, goal, value)",
        "is_climb": "(program, start, goal, value)", "is_fall": "(program, start, goal, value)", "climb": "(program, start, goal)", "fall": "(program, start, goal)",
    },
    "ask.goals": {
        "is_goal": "(program, value)", "can_reach": "(program, start, goal)", "can_keep": "(program, start, goal)", "reached": "(program, goal)", "kept": "(program, goal)",
        "reach_paper": "(program, start, goal)", "keep_paper": "(program, start, goal)", "is_reach_paper": "(program, start, goal, value)",
        "is_keep_paper": "(program, start, goal, value)",
    },
    "ask.duels": {
        "Duel": {
            "__init__": "(self, program, start, goal, paper, *answers)", "of": "(program, start, goal, paper, answers)",
            "properties": "program start goal paper answers choices state mode words steps options", "answered": "(self, *more)", "__len__": "(self)", "__eq__": "(self, other)",
            "__str__": "(self)",
        },
    },
    "events.forward": {
        "forward_book": "(program)", "lasting_sets": "(program)", "ends_forward": "(program, start)", "events_forward": "(program, start)", "lasts_forward": "(program, start)",
    },
    "signals.free": {"free_signals": "(program, name)", "signals_out": "(program)"},
    "signals.led": {"led": "(program)", "led_context": "(program, context)", "led_book": "(program, goal, book)"},
    "signals.charts": {
        "is_chart": "(modes, signals, value)", "led_in": "(modes, signals, chart)",
        "Ride": {
            "__init__": "(self, modes, signals, chart, start, *choices)", "of": "(modes, signals, chart, start, choices)",
            "properties": "modes signals chart start choices mode state signal place depth options", "__add__": "(self, other)", "back": "(self, *, many=1)", "__len__": "(self)",
            "__eq__": "(self, other)", "__str__": "(self)",
        },
    },
    "same.entries": {
        "entries_of": "(program, name, *, keep=False)", "are_alike": "(program, one, other, *, keep=False)", "is_within": "(program, one, other, *, keep=False)",
        "telling": "(program, one, other, *, keep=False)", "is_telling": "(program, one, other, value, *, keep=False)", "caller_of": "(program, name, maps, good)",
    },
    "same.made": {"block_of": "(modes, wanted)", "won_map": "(modes, term)"},
    "same.editions": {
        "choice_at": "(program, name, number)", "without_term": "(program, name, number, index)", "exchanged": "(program, one, other)",
        "modes_lost": "(program, other, goal, *, keep=False)", "needless_terms": "(program, goal, *, keep=False)",
    },
    "unused.places": {"is_place": "(program, value)", "places": "(program)", "term_at": "(program, place)", "probe": "(program, place)"},
    "unused.met": {"is_met": "(program, place)", "met_places": "(program)", "met_paper": "(program, place)", "is_met_paper": "(program, place, value)"},
    "unused.trim": {
        "is_idle": "(program, name, parameter)", "idle_parameters": "(program)", "idle_answers": "(program)", "idle_scopes": "(program)", "idle_procedures": "(program)",
        "trimmed": "(program)",
    },
    "sides.turned": {"other_side": "(program)", "is_sure_footed": "(program)", "other_paper": "(program, paper)", "put_together": "(program, other)"},
    "text.texts": {"write_program": "(program)", "read_program": "(text)"},
    "house.desk": {
        "Desk": {
            "__init__": "(self, program)", "properties": "program promises deeds", "__getitem__": "(self, at)", "promise": "(self, name, *terms)", "forget": "(self, name)",
            "put": "(self, program)", "leave_out": "(self, name, number, index)", "exchange": "(self, one, other)", "undo": "(self, *, many=1)", "redo": "(self, *, many=1)",
            "trial": "(self)", "during": "(self, call)", "twin": "(self)", "__contains__": "(self, value)", "__len__": "(self)", "__eq__": "(self, other)", "__str__": "(self)",
        },
    },
    "text.shell": {
        "MAX_PROGRAMS": 8,
        "Shell": {
            "__init__": "(self)", "run": "(self, command)", "__call__": "(self, command)", "properties": "names programs script", "__contains__": "(self, value)",
            "__len__": "(self)", "__eq__": "(self, other)", "replayed": "(script)", "__str__": "(self)",
        },
    },
}
ROW = ("first", 1, (("go", 0, 0, 0, 1), ("leave", 0)))


class Interface(unittest.TestCase):
    def test_names_and_arguments(self):
        for module, names in INTERFACE.items():
            there = importlib.import_module("handedworld." + module)
            for name, told in names.items():
                found = vars(there)[name]
                if type(told) is int:
                    self.assertEqual(found, told)
                elif type(told) is str:
                    self.assertEqual((str(inspect.signature(found)), found.__module__), (told, there.__name__))
                else:
                    self.check_class(found, there, told)

    def check_class(self, found, there, told):
        self.assertEqual(found.__module__, there.__name__)
        for name, parameters in told.items():
            if name == "properties":
                for each in parameters.split(" "):
                    self.assertIs(type(vars(found)[each]), property)
            else:
                self.assertIn(name, vars(found))
                self.assertEqual(str(inspect.signature(getattr(found, name))), parameters, (found, name))

    def test_errors(self):
        direct = ("InvalidProgram", "InvalidMeaning", "InvalidGoal", "InvalidOperation", "InvalidCommand", "ParseError")
        for name in direct:
            self.assertEqual(getattr(errors, name).__bases__, (errors.HandError,))
        self.assertEqual(errors.HandError.__bases__, (ValueError,))
        others = {
            "UnknownName": (KeyError, "name"), "InvalidNumber": (IndexError, "value"), "NothingToUndo": (LookupError, "many"), "Refused": (ArithmeticError, "name"),
            "TooMany": (OverflowError, "limit"), "ParseError": (errors.HandError, "line"),
        }
        for name, (base, keeps) in others.items():
            self.assertEqual(getattr(errors, name).__bases__, (base,))
            self.assertEqual(getattr(getattr(errors, name)(7), keeps), 7)


def things():
    """An object of each class that callers make."""
    desk, shell = Desk(GIVE), Shell()
    desk.promise("a", "reach", 0, ("deed", "use"))
    shell("new a\n" + write_program(FIND))
    paper = reach_paper(GIVE, 0, ("end", 2))
    return [GIVE["work"], GIVE, Run(CHANCE, 0, 1), Space(2), Duel(GIVE, 0, ("end", 2), paper), Ride(2, (), (ROW,), 0, 0), desk, shell]


class Conventions(unittest.TestCase):
    def test_objects(self):
        for at, one in enumerate(things()):
            refused(self, TypeError, lambda: iter(one))
            other = things()[at]
            self.assertTrue(one == other and not one != other)
            self.assertEqual(str(one), str(other))
            for value in wrong_values() + things()[:at] + things()[at + 1 :]:
                is_equal = one == value
                self.assertIs(type(is_equal), bool)
                self.assertIs(one != value, not is_equal)
                self.assertIs(value == one, is_equal)
            if "__contains__" in vars(type(one)):
                for value in wrong_values() + things():
                    self.assertIs(type(value in one), bool)

    def test_judges(self):
        """Each accepts all values, and tells True or False."""
        goal, tick = ("end", 2), ("main", ())
        judges = [
            is_name, lambda value: is_term(value, ()), lambda value: is_context(GIVE, value), lambda value: is_goal(GIVE, value),
            lambda value: is_additive(2, value), lambda value: is_making(1, value), lambda value: is_closed(GIVE, 0, goal, value),
            lambda value: is_supported(GIVE, 0, goal, value), lambda value: is_climb(GIVE, 0, goal, value), lambda value: is_fall(GIVE, 0, goal, value),
            lambda value: is_reach_paper(GIVE, 0, goal, value), lambda value: is_keep_paper(GIVE, 0, goal, value), lambda value: is_chart(2, (), value),
            lambda value: is_telling(FIND, "main", "main", value), lambda value: is_place(GIVE, value), lambda value: is_met_paper(GIVE, tick, value),
            Space(2).is_set, Space(2).is_map, Space(2).is_monotone,
        ]
        for judge in judges:
            for value in wrong_values() + things() + [{"a": things()}, tuple(things()), [things()]]:
                held = copy.deepcopy(value) if type(value) in (dict, list) else value
                self.assertIn(judge(value), (True, False))
                self.assertIs(type(judge(value)), bool)
                self.assertEqual(value, held)

    def test_keys_are_ascending(self):
        maker = Maker(251)
        for turn in range(60):
            one = maker.program(depth=4, loops=True, bans=((), ("and",))[turn % 2])
            goal = maker.dice.choice(goals_of(one))
            found = [reach_book(one, goal), keep_book(one, goal), signals_out(one)]
            if "and" not in one.sides:
                found += [forward_book(one), lasting_sets(one)]
            for mode in range(one.modes):
                for _, value in (reach_paper(one, mode, goal), keep_paper(one, mode, goal)):
                    found += [value] if type(value) is dict else list(value)
            found.append(met_paper(one, places(one)[-1])[-1])
            for book in found:
                for row in (book,) if type(book) is dict else book:
                    self.assertEqual(list(row), sorted(row))

    def test_equal_calls(self):
        """What was asked ahead does not matter; what is returned gives access to nothing."""
        maker = Maker(252)
        for turn in range(40):
            one = maker.program(depth=4, loops=True, modes=(1, 2)[turn % 2])
            goal, place = maker.dice.choice(goals_of(one)), maker.dice.choice(places(one))
            calls = [
                lambda: reach_paper(one, 0, goal), lambda: keep_paper(one, 0, goal), lambda: met_paper(one, place), lambda: needless_terms(one, goal), lambda: signals_out(one),
                lambda: trimmed(one), lambda: places(one), lambda: probe(one, place), lambda: write_program(one), lambda: other_side(one), lambda: idle_scopes(one),
                lambda: idle_answers(one), lambda: entries_of(one, "main") if not free_signals(one, "main") else None,
            ]
            before, first = copy.deepcopy(one), [call() for call in calls]
            held = copy.deepcopy(first)
            for value in first:
                for part in (value,) + (value if type(value) is tuple else ()):
                    if type(part) is dict:
                        part.clear()
            self.assertEqual([call() for call in calls], held)
            self.assertEqual(one, before)

    def test_each_method_that_tells_nothing(self):
        desk = Desk(GIVE)
        self.assertEqual([desk.promise("a", "reach", 0, ("deed", "use")), desk.put(GIVE), desk.forget("a")], [None, None, None])

    def test_by_keyword(self):
        """What stands behind the star is passed by keyword alone."""
        for call in (
            lambda: entries_of(FIND, "main", True), lambda: telling(FIND, "main", "main", True), lambda: needless_terms(FIND, ("end", 1), True), lambda: Desk(GIVE).undo(0),
            lambda: Desk(GIVE).redo(0),
        ):
            refused(self, TypeError, call)


class True014(unittest.TestCase):
    """Each sentence of [0.14]."""

    def drawn(self, seed, many, **more):
        maker = Maker(seed)
        for turn in range(many):
            yield maker, maker.program(depth=4, loops=turn % 3 > 0, modes=(1, 2, 2, 3)[turn % 4], **more)

    def test_who_reaches_keeps(self):
        for _, one in self.drawn(253, 120):
            for goal in goals_of(one):
                self.assertLessEqual(members(reached(one, goal)), members(kept(one, goal)))

    def test_without_the_other_side(self):
        """A goal is reached exactly if some run comes to it: found by runs if there are no loops."""
        maker = Maker(254)
        for turn in range(80):
            one = maker.program(depth=4, loops=False, bans=("and",), modes=(1, 2, 3)[turn % 3])
            for goal in goals_of(one):
                until = goal[1] if goal[0] == "deed" else None
                found = [mode for mode in range(one.modes) if forces(Run(one, mode, until=until), goal)]
                self.assertEqual(sorted(members(reached(one, goal))), found)
        for _, one in self.drawn(255, 60, bans=("and",)):
            for goal in goals_of(one):
                until = goal[1] if goal[0] == "deed" else None
                for mode in range(one.modes):
                    for run in each_run(one, mode, 3, until=until):
                        came = run.state == "done" or goal == ("signal", run.signal) or run.state == "ended" and goal[0] == "end" and run.mode in members(goal[1])
                        self.assertLessEqual(came, mode in members(reached(one, goal)))

    def test_both_sides(self):
        many = 0
        for _, one in self.drawn(256, 120, sure=True):
            if is_sure_footed(one):
                full = 2**one.modes - 1
                for good in range(full + 1):
                    self.assertEqual(kept(one, ("end", good)), full - reached(other_side(one), ("end", full - good)))
                    many += 1
        self.assertGreater(many, 100)

    def test_maps_that_grow(self):
        grew = 0
        for maker, one in self.drawn(257, 120):
            name = maker.dice.choice(one.names)
            goal = maker.dice.choice(goals_of(one))
            less = any_context(one, name, maker.dice, monotone=True)
            space = SPACES[one.modes]
            rows = [tuple(space.either(row, maker.dice.choice(space.maps)) for row in part) for part in less[1:]]
            more = (name, *rows)
            for call in (least_map, greatest_map):
                self.assertTrue(map_is_within(call(one, less, goal), call(one, more, goal)))
                grew += call(one, less, goal) != call(one, more, goal)
        self.assertGreater(grew, 20)


class Together(unittest.TestCase):
    """What the stages say of one another."""

    def test_led_trimmed_turned_and_written(self):
        """Programs that are made of others are asked for the same goals."""
        maker = Maker(258)
        many = 0
        for turn in range(60):
            one = maker.program(depth=4, loops=turn % 3 > 0, modes=(1, 2)[turn % 2])
            others = [trimmed(one), read_program(write_program(one)), put_together(one, trimmed(one)), exchanged(one, "one", "one")]
            try:
                others.append(led(one))
                many += 1
            except (InvalidOperation, errors.TooMany):
                pass
            for good in range(2**one.modes):
                goal = ("end", good)
                for other in others:
                    self.assertEqual((reached(other, goal), kept(other, goal)), (reached(one, goal), kept(one, goal)))
        self.assertGreater(many, 20)

    def test_papers_through_stages(self):
        """A paper of a sure-footed program becomes one of the other side, which a duel goes by."""
        maker = Maker(259)
        many = 0
        for turn in range(60):
            one = maker.program(depth=4, loops=False, sure=True, modes=2)
            if is_sure_footed(one):
                for paper in (reach_paper(one, 0, ("end", 1)), keep_paper(one, 0, ("end", 1))):
                    duel = Duel(other_side(one), 0, ("end", 2), other_paper(one, paper))
                    self.assertIn(duel.state, ("came", "ended", "waiting"))
                    many += 1
        self.assertGreater(many, 40)

    def test_programs_of_charts(self):
        chart = (("first", 2, (("call", 0, 1, "first", ()), ("leave", 0), ("leave", 1))),)
        one = led_in(2, (), chart)
        self.assertEqual((met_places(trimmed(one)), trimmed(trimmed(one))), (places(trimmed(one)), trimmed(one)))
        self.assertEqual(read_program(write_program(one)), one)
        desk = Desk(one)
        desk.promise("leaves", "reach", 0, ("end", 1))
        desk.promise("stays", "keep", 1, ("end", 2))
        self.assertEqual(len(desk), 2)

    def test_callers_on_a_desk(self):
        once, twice = Procedure("once", ("b",), ("run", "b")), Procedure("twice", ("b",), ("seq", ("run", "b"), ("run", "b")))
        one = Program(2, (), Procedure("main", (), ("seq",)), once, twice)
        maps, good, mode = telling(one, "once", "twice")
        callers = [caller_of(one, name, maps, good) for name in ("once", "twice")]
        self.assertEqual(sorted(mode in members(reached(caller, ("end", 3))) for caller in callers), [False, True])
        desk = Desk(callers[0])
        desk.promise("shown", "reach" if mode in members(reached(callers[0], ("end", 3))) else "bar", mode, ("end", 3))
        refused(self, errors.Refused, lambda: desk.exchange("once", "twice"), keeps=("name", "shown"))

    def test_reckoning_of_books(self):
        """The book of each paper is reckoned by itself, or by the one ahead."""
        for one, goal in ((FIND, ("end", 2)), (GIVE, ("deed", "use")), (TICK, ("end", 1))):
            book = reach_book(one, goal)
            for context in book:
                self.assertEqual(reckoned(one, context, goal, book), book[context])
                self.assertLessEqual(set(needed(one, context, goal, book)), set(book))


if __name__ == "__main__":
    unittest.main()
