"""Stage 14: charts, rides, and programs that go along with them."""

import random
import time
import unittest

from handedworld.ask.goals import reached
from handedworld.base.programs import Program
from handedworld.errors import InvalidNumber, InvalidOperation, InvalidProgram, TooMany
from handedworld.runs.runs import Run
from handedworld.signals.charts import Ride, is_chart, led_in
from handedworld.signals.free import signals_out
from samples import BIG, is_int, is_word, refused, wrong_values

FIX = ("fix", 2, (("go", 0, 1, 0, 1), ("go", 0, 1, 0, 0), ("leave", 1)))
ASKS = ("asks", 2, (("raise", 0, 1, "need"), ("leave", 1)))
CHART = (("first", 3, (("call", 0, 1, "asks", (("need", "fix", ((0, 2),)),)), ("leave", 1), ("leave", 2))), ASKS, FIX)
RING = (("ring", 1, (("go", 0, 0, 0, 0), ("leave", 0))),)


def ride(chart, *choices, start=0, modes=2, signals=("need",)):
    return Ride(modes, signals, chart, start, *choices)


# -- [14.1] told once more --


def fits(modes, signals, value):
    """Whether a value is a chart, rule by rule."""

    def index(one, many):
        return is_int(one) and 0 <= one < many

    def ascends(rows):
        return all(one < other for one, other in zip(rows, rows[1:]))

    def answers(rows, points):
        if type(rows) is not tuple:
            return False
        for row in rows:
            if type(row) is not tuple or len(row) != 3 or row[0] not in signals or row[1] not in names or type(row[2]) is not tuple:
                return False
            for pair in row[2]:
                if type(pair) is not tuple or len(pair) != 2 or not index(pair[0], modes) or not index(pair[1], points):
                    return False
            if not ascends([pair[0] for pair in row[2]]):
                return False
        return ascends([row[0] for row in rows])

    def move(one, points):
        if type(one) is not tuple or not one:
            return False
        rest = one[1:]
        if one[0] == "leave":
            return len(rest) == 1 and index(rest[0], points)
        if len(rest) < 3 or not index(rest[0], points) or not index(rest[1], points):
            return False
        if one[0] == "go":
            return len(rest) == 4 and index(rest[2], modes) and index(rest[3], modes)
        if one[0] == "raise":
            return len(rest) == 3 and rest[2] in signals
        return one[0] == "call" and len(rest) == 4 and rest[2] in names and answers(rest[3], points)

    if type(value) is not tuple or not 1 <= len(value) <= 4:
        return False
    for row in value:
        if type(row) is not tuple or len(row) != 3 or not is_word(row[0]) or not is_int(row[1]) or not 1 <= row[1] <= 4:
            return False
        if type(row[2]) is not tuple or len(row[2]) > 6:
            return False
    names = [row[0] for row in value]
    return len(set(names)) == len(names) and all(move(one, row[1]) for row in value for one in row[2])


class Work:
    """A row at work: what it was begun by, and where that goes on."""

    def __init__(self, name, up=None, call=None, caught=None):
        self.name, self.point, self.up, self.call, self.caught = name, 0, up, call, caught


def rows_of(chart):
    return {row[0]: row for row in chart}


def made(chart, work, mode):
    """The moves that can be made."""
    return [one for one in rows_of(chart)[work.name][2] if one[1] == work.point and (one[0] != "go" or one[3] == mode)]


def told(chart, start, choices):
    """State, mode, place, depth, options and signal behind some choices; None if one is no index there."""
    work, mode, over, out = Work(chart[0][0]), start, None, None
    for index in choices:
        moves = [] if over else made(chart, work, mode)
        if not is_int(index) or not 0 <= index < len(moves):
            return None
        move = moves[index]
        if move[0] == "go":
            work.point, mode = move[2], move[4]
        elif move[0] == "call":
            work.point = move[2]
            work = Work(move[3], up=work, call={row[0]: row for row in move[4]})
        elif move[0] == "raise":
            work.point = move[2]
            here = work
            while here is not None and (here.call is None or move[3] not in here.call):
                # What is done in an answer does not see the call that answers.
                here = here.up if here.caught is None else here.caught[0].up
            if here is None:
                over, out = "asking", move[3]
            else:
                work = Work(here.call[move[3]][1], up=work, caught=(here, dict(here.call[move[3]][2])))
        elif work.up is None:
            over = "left"
        elif work.caught is not None and mode in work.caught[1]:
            point = work.caught[1][mode]
            work = work.caught[0].up
            work.point = point
        else:
            work = work.up
    if over:
        return over, mode, None, 0, 0, out
    depth, here = 0, work.up
    while here is not None:
        depth, here = depth + 1, here.up
    options = len(made(chart, work, mode))
    return "going" if options else "stuck", mode, (work.name, work.point), depth, options, None


def shown(one):
    return one.state, one.mode, one.place, one.depth, one.options, one.signal


def some_chart(dice, modes, signals, most=4):
    """A chart by chance numbers."""
    names = dice.sample(["a", "b", "c", "d"], dice.randint(1, most))
    points = {name: dice.randint(1, 2 if dice.random() < 0.9 else 4) for name in names}
    rows = []
    for name in names:
        moves = []
        for _ in range(dice.randint(1, 5)):
            here, there = dice.randrange(points[name]), dice.randrange(points[name])
            kind = dice.choice(("go", "go", "call", "call", "raise", "raise", "leave", "leave"))
            if kind == "leave":
                moves.append((kind, here))
            elif kind == "go":
                moves.append((kind, here, there, dice.randrange(modes), dice.randrange(modes)))
            elif kind == "raise" and signals:
                moves.append((kind, here, there, dice.choice(signals)))
            elif kind == "call":
                answers = []
                for signal in signals:
                    if dice.random() < 0.7:
                        unwinds = [(mode, dice.randrange(points[name])) for mode in range(modes) if dice.random() < 0.4]
                        answers.append((signal, dice.choice(names), tuple(unwinds)))
                moves.append((kind, here, there, dice.choice(names), tuple(answers)))
        rows.append((name, points[name], tuple(moves)))
    return tuple(rows)


def too_many(chart):
    """Whether a program that goes along would have more than ten procedures."""
    calls = [move for row in chart for move in row[2] if move[0] == "call"]
    unwinding = [answer for move in calls for answer in move[4] if answer[2]]
    return sum(row[1] for row in chart) + len(calls) + len(unwinding) > 9


def changes(value):
    """Values that differ from this one in one place: left out, put in, doubled, exchanged, or of another kind."""
    for other in (None, True, False, -1, 0, 1, 2, 4, 5, "", "a", "need", "A", (), ("leave", 0), [], {}):
        yield other
    if type(value) is tuple:
        yield list(value)
        for at, part in enumerate(value):
            yield value[:at] + value[at + 1:]
            yield value[:at] + (part,) + value[at:]
            if at:
                yield value[: at - 1] + (part, value[at - 1]) + value[at + 1:]
            for other in changes(part):
                yield value[:at] + (other,) + value[at + 1:]


class Charts(unittest.TestCase):
    def test_right_ones(self):
        for chart in (
            CHART, RING, (("a", 1, ()),), (("a", 4, (("leave", 3),)),), (("abcdefgh", 1, (("leave", 0),) * 6),),
            (("b", 1, ()), ("a", 1, ()), ("d", 1, ()), ("c", 1, ())), (("a", 1, (("call", 0, 0, "a", ()),)),),
            (("a", 2, (("call", 1, 0, "a", (("need", "a", ()),)),)),), (("a", 2, (("call", 1, 0, "a", (("need", "a", ((0, 1), (1, 1))),)),)),),
        ):
            self.assertIs(is_chart(2, ("need",), chart), True)
        both = (("a", 1, (("call", 0, 0, "a", (("s", "a", ()), ("t", "a", ((1, 0),)))), ("raise", 0, 0, "t"))),)
        self.assertIs(is_chart(2, ("s", "t"), both), True)
        self.assertIs(is_chart(1, ("s", "t"), both), False)
        self.assertIs(is_chart(2, ("s",), both), False)
        turned = (("a", 1, (("call", 0, 0, "a", (("t", "a", ()), ("s", "a", ()))),)),)
        self.assertIs(is_chart(2, ("s", "t"), turned), False)

    def test_wrong_ones(self):
        for value in (
            (), (("a", 1, ()),) * 2, tuple((name, 1, ()) for name in "abcde"), (("a", 0, ()),), (("a", 5, ()),), (("a", 1, (("leave", 0),) * 7),),
            (("a", 1, (("leave", 1),)),), (("a", True, ()),), (("a", 1, (("leave", False),)),), (("a", 1, [("leave", 0)]),), [("a", 1, ())],
            (("a", 1, (("go", 0, 0, 0, 2),)),), (("a", 1, (("go", 0, 0, 2, 0),)),), (("a", 1, (("go", 0, 1, 0, 0),)),),
            (("a", 1, (("go", 0, 0, 0),)),), (("a", 1, (("raise", 0, 0, "other"),)),), (("a", 1, (("raise", 0, 0),)),),
            (("a", 1, (("call", 0, 0, "b", ()),)),), (("a", 1, (("call", 0, 0, "a"),)),), (("a", 1, (("call", 0, 0, "a", (("need", "a"),)),)),),
            (("a", 1, (("call", 0, 0, "a", (("need", "b", ()),)),)),), (("a", 1, (("call", 0, 0, "a", (("need", "a", ((0, 1),)),)),)),),
            (("a", 1, (("call", 0, 0, "a", (("need", "a", ((2, 0),)),)),)),), (("a", 1, (("call", 0, 0, "a", (("need", "a", ((1, 0), (0, 0))),)),)),),
            (("a", 1, (("call", 0, 0, "a", (("need", "a", ((1, 0), (1, 0))),)),)),), (("a", 1, (("call", 0, 0, "a", (("need", "a", ()),) * 2),)),),
            (("a", 1, (("call", 0, 0, "a", [("need", "a", ())]),)),), (("a", 1, (("call", 0, 0, "a", (("need", "a", [(0, 0)]),)),)),),
            (("a", 1, (("stay", 0, 0, 0, 0),)),), (("a", 1, ((),)),), (("a", 1, ("leave",)),), (("A", 1, ()),), (("", 1, ()),), (("a", 1),),
            (("a", 1, (), ()),), (("a", 1, (("leave", 0, 0),)),), (("a", 1, (("leave",),)),),
        ):
            self.assertIs(is_chart(2, ("need",), value), False, value)
            refused(self, InvalidOperation, lambda: Ride(2, ("need",), value, None, None))
            refused(self, InvalidOperation, lambda: led_in(2, ("need",), value))

    def test_near_ones(self):
        right = wrong = 0
        for chart in (CHART, (("a", 2, (("call", 0, 1, "b", (("s", "a", ((0, 1), (1, 0))), ("t", "b", ()))),)), ("b", 1, (("raise", 0, 0, "t"),)))):
            for value in changes(chart):
                for modes, signals in ((2, ("need",)), (1, ("s", "t")), (2, ("s", "t"))):
                    expected = fits(modes, signals, value)
                    self.assertIs(is_chart(modes, signals, value), expected, value)
                    right, wrong = right + expected, wrong + (not expected)
        self.assertGreater(min(right, wrong), 100)

    def test_values_of_all_kinds(self):
        for value in wrong_values():
            self.assertIs(is_chart(2, ("need",), value), False)
            self.assertIs(is_chart(1, (), ((value, 1, ()),)), is_word(value))
            self.assertIs(is_chart(1, (), (("a", value, ()),)), is_int(value) and 1 <= value <= 4)
            self.assertIs(is_chart(1, (), (("a", 1, value),)), type(value) is tuple and len(value) == 0)
            self.assertIs(is_chart(1, (), (("a", 1, (value,)),)), False)

    def test_wrong_arguments(self):
        for call in (is_chart, led_in):
            for value in wrong_values():
                if not is_int(value) or not 1 <= value <= 2:
                    refused(self, InvalidNumber, lambda: call(value, None, None), keeps=("value", value))
                if type(value) is not tuple or value not in ((), ("seq",), ("deed", "x")):
                    refused(self, InvalidProgram, lambda: call(2, value, None))
            for value in (("b", "a"), ("a", "a"), ("a", "b", "c"), ("A",), ["a"], (1,), (("a",),)):
                refused(self, InvalidProgram, lambda: call(1, value, None))
        for value in wrong_values():
            refused(self, InvalidOperation, lambda: led_in(2, (), value))


class Rides(unittest.TestCase):
    def test_going_and_leaving(self):
        chart = (("a", 3, (("go", 0, 1, 0, 1), ("go", 0, 2, 1, 0), ("go", 0, 0, 0, 0), ("leave", 1))),)
        self.assertEqual(shown(ride(chart)), ("going", 0, ("a", 0), 0, 2, None))
        self.assertEqual(shown(ride(chart, start=1)), ("going", 1, ("a", 0), 0, 1, None))
        self.assertEqual(shown(ride(chart, 1, 1)), ("going", 0, ("a", 0), 0, 2, None))
        self.assertEqual(shown(ride(chart, 0)), ("going", 1, ("a", 1), 0, 1, None))
        self.assertEqual(shown(ride(chart, 0, 0)), ("left", 1, None, 0, 0, None))
        self.assertEqual(shown(ride(chart, 0, start=1)), ("stuck", 0, ("a", 2), 0, 0, None))
        self.assertEqual(shown(ride((("a", 1, ()),))), ("stuck", 0, ("a", 0), 0, 0, None))

    def test_calls(self):
        chart = (("a", 2, (("call", 0, 1, "b", ()), ("leave", 1))), ("b", 1, (("call", 0, 0, "a", ()), ("leave", 0))))
        for choices, expected in (
            ((), ("going", 0, ("a", 0), 0, 1, None)), ((0,), ("going", 0, ("b", 0), 1, 2, None)),
            ((0, 1), ("going", 0, ("a", 1), 0, 1, None)), ((0, 1, 0), ("left", 0, None, 0, 0, None)),
            ((0, 0), ("going", 0, ("a", 0), 2, 1, None)), ((0, 0, 0, 1, 0), ("going", 0, ("b", 0), 1, 2, None)),
        ):
            self.assertEqual(shown(ride(chart, *choices)), expected)

    def test_raises_and_answers(self):
        chart = (("a", 2, (("call", 0, 1, "b", (("s", "c", ()),)), ("leave", 1))),
                 ("b", 3, (("raise", 0, 1, "s"), ("raise", 1, 2, "t"), ("leave", 2))), ("c", 1, (("go", 0, 0, 0, 1), ("leave", 0))))
        for choices, expected in (
            ((0, 0), ("going", 0, ("c", 0), 2, 2, None)), ((0, 0, 0), ("going", 1, ("c", 0), 2, 1, None)),
            ((0, 0, 1), ("going", 0, ("b", 1), 1, 1, None)), ((0, 0, 1, 0), ("asking", 0, None, 0, 0, "t")),
        ):
            self.assertEqual(shown(ride(chart, *choices, signals=("s", "t"))), expected)
        alone = (("a", 1, (("raise", 0, 0, "need"),)),)
        self.assertEqual(shown(ride(alone, 0, start=1)), ("asking", 1, None, 0, 0, "need"))

    def test_unwinding(self):
        for mode, place, depth in ((0, ("first", 2), 0), (1, ("asks", 1), 1)):
            one = ride(CHART, 0, 0, 0 if mode else 1, 0)
            self.assertEqual((one.mode, one.place, one.depth), (mode, place, depth))
        self.assertEqual(shown(ride(CHART, 0, 0, 1, 0, 0)), ("left", 0, None, 0, 0, None))

    def test_unwinding_takes_all_that_was_begun_in_the_call(self):
        chart = (("a", 3, (("call", 0, 1, "b", (("s", "d", ((0, 2),)),)), ("leave", 1), ("raise", 2, 1, "s"))),
                 ("b", 1, (("call", 0, 0, "c", (("t", "d", ()),)),)), ("c", 1, (("raise", 0, 0, "t"), ("raise", 0, 0, "s"))),
                 ("d", 1, (("leave", 0), ("call", 0, 0, "d", ()))))
        self.assertEqual(shown(ride(chart, 0, 0, 0, 1, signals=("s", "t"))), ("going", 0, ("d", 0), 4, 2, None))
        self.assertEqual(shown(ride(chart, 0, 0, 0, 1, 0, signals=("s", "t")))[2:4], (("d", 0), 3))
        self.assertEqual(shown(ride(chart, 0, 0, 1, signals=("s", "t")))[2:4], (("d", 0), 3))
        self.assertEqual(shown(ride(chart, 0, 0, 1, 1, 0, signals=("s", "t")))[2:4], (("d", 0), 3))
        self.assertEqual(shown(ride(chart, 0, 0, 1, 0, signals=("s", "t"))), ("going", 0, ("a", 2), 0, 1, None))
        self.assertEqual(shown(ride(chart, 0, 0, 1, 0, 0, signals=("s", "t"))), ("asking", 0, None, 0, 0, "s"))

    def test_answers_do_not_see_their_call(self):
        """The answer asks again, and this is answered by the call further out, whatever was begun in between."""
        chart = (("a", 2, (("call", 0, 1, "b", (("s", "fix", ()),)), ("leave", 1))),
                 ("b", 2, (("call", 0, 1, "c", (("s", "again", ()),)), ("leave", 1))),
                 ("c", 2, (("raise", 0, 1, "s"), ("leave", 1))),
                 ("again", 2, (("raise", 0, 1, "s"), ("leave", 1))))
        chart = chart[:3] + (("again", 3, (("raise", 0, 1, "s"), ("leave", 1))),)
        chart = (("a", 2, (("call", 0, 1, "b", (("s", "c", ()),)), ("leave", 1))),) + chart[1:]
        one = ride(chart, 0, 0, 0, 0, signals=("s",))
        self.assertEqual(shown(one), ("going", 0, ("c", 0), 4, 1, None))
        self.assertEqual(shown(one + 0), ("asking", 0, None, 0, 0, "s"))

    def test_what_is_called_in_an_answer_counts(self):
        chart = (("a", 1, (("call", 0, 0, "b", (("s", "c", ()),)),)), ("b", 1, (("raise", 0, 0, "s"), ("leave", 0))),
                 ("c", 1, (("call", 0, 0, "b", (("s", "d", ((0, 0),)),)), ("leave", 0))), ("d", 1, (("leave", 0),)))
        one = ride(chart, 0, 0, 0, 0, signals=("s",))
        self.assertEqual((one.place, one.depth), (("d", 0), 4))
        self.assertEqual(((one + 0).place, (one + 0).depth), (("c", 0), 2))

    def test_told_once_more(self):
        dice = random.Random(161)
        seen = {}
        for _ in range(500):
            modes, signals = dice.choice((1, 2)), dice.choice(((), ("s",), ("s", "t")))
            chart = some_chart(dice, modes, signals)
            for start in range(modes):
                choices = []
                for _ in range(14):
                    one = Ride.of(modes, signals, chart, start, tuple(choices))
                    self.assertEqual(shown(one), told(chart, start, choices))
                    seen[one.state] = seen.get(one.state, 0) + 1
                    seen[one.depth] = seen.get(one.depth, 0) + 1
                    refused(self, InvalidOperation, lambda: one + one.options)
                    refused(self, InvalidOperation, lambda: Ride(modes, signals, chart, start, *choices, one.options, 0))
                    if one.options == 0:
                        break
                    choices.append(dice.randrange(one.options))
        self.assertGreater(min(seen[state] for state in ("going", "left", "asking", "stuck")), 50)
        self.assertGreater(seen[5], 50)

    def test_properties(self):
        one = ride(CHART, 0, 0, start=1)
        self.assertEqual((one.modes, one.signals, one.chart, one.start, one.choices), (2, ("need",), CHART, 1, (0, 0)))
        self.assertEqual((len(one), str(one)), (2, "ride of 2 moves, stuck in 1"))
        self.assertEqual(str(ride(CHART)), "ride of 0 moves, going in 0")
        self.assertEqual(str(ride(RING, 1)), "ride of 1 moves, left in 0")

    def test_more_and_back(self):
        one = ride(CHART, 0, 0, 1)
        self.assertEqual(ride(CHART) + 0 + 0 + 1, one)
        self.assertEqual(one.choices, (0, 0, 1))
        self.assertEqual(one.back(), ride(CHART, 0, 0))
        self.assertEqual(one.back(many=0), one)
        self.assertEqual(one.back(many=3), ride(CHART))
        self.assertEqual(one.back(many=2) + 0 + 0, ride(CHART, 0, 0, 0))
        for value in wrong_values() + [4, 5]:
            if not is_int(value) or not 0 <= value <= 3:
                refused(self, InvalidNumber, lambda: one.back(many=value), keeps=("value", value))
            if not is_int(value) or value != 0:
                refused(self, InvalidOperation, lambda: one + value)
        refused(self, InvalidNumber, lambda: ride(CHART).back(), keeps=("value", 1))
        self.assertEqual(one, ride(CHART, 0, 0, 1))

    def test_equality(self):
        one = ride(CHART, 0, 0)
        self.assertTrue(one == Ride.of(2, ("need",), CHART, 0, (0, 0)))
        self.assertFalse(one != Ride.of(2, ("need",), CHART, 0, (0, 0)))
        others = [one + 0, one.back(), ride(CHART, 0, 0, start=1), ride(CHART, 0, 0, signals=("need", "other")), ride(RING, 0, 0)]
        for other in others + wrong_values():
            self.assertFalse(one == other)
            self.assertTrue(one != other)
        self.assertFalse(ride(RING, modes=1, signals=()) == ride(RING, modes=2, signals=()))

    def test_it_cannot_be_iterated_over(self):
        with self.assertRaises(TypeError):
            iter(ride(CHART))

    def test_the_limit(self):
        one = ride(RING, *(0,) * 200)
        self.assertEqual((len(one), one.state), (200, "going"))
        refused(self, TooMany, lambda: one + 0, keeps=("limit", 200))
        refused(self, TooMany, lambda: one + 1, keeps=("limit", 200))
        refused(self, InvalidOperation, lambda: one + 2)
        refused(self, TooMany, lambda: ride(RING, *(0,) * 201), keeps=("limit", 200))
        refused(self, TooMany, lambda: ride(RING, *(0,) * 300 + (1,)), keeps=("limit", 200))
        refused(self, InvalidOperation, lambda: ride(RING, *(0,) * 300 + (2,)))
        refused(self, InvalidOperation, lambda: ride(RING, *(0,) * 300 + (1, 0)))
        self.assertEqual((one.back() + 1).state, "left")
        deep = (("a", 1, (("call", 0, 0, "a", (("s", "a", ((0, 0),)),)), ("raise", 0, 0, "s"))),)
        begin = time.monotonic()
        self.assertEqual(ride(deep, *(0, 1) * 100, signals=("s",)).depth, 200)
        self.assertLess(time.monotonic() - begin, 5)

    def test_wrong_arguments(self):
        for value in wrong_values():
            if not is_int(value) or not 1 <= value <= 2:
                refused(self, InvalidNumber, lambda: Ride(value, None, None, None, None), keeps=("value", value))
                refused(self, InvalidNumber, lambda: Ride.of(value, None, None, None, None), keeps=("value", value))
            if type(value) is not tuple or value not in ((), ("seq",), ("deed", "x")):
                refused(self, InvalidProgram, lambda: Ride(2, value, None, None, None))
            if type(value) is not tuple or told(CHART, 0, value) is None:
                refused(self, InvalidOperation, lambda: Ride.of(2, ("need",), CHART, 0, value))
            refused(self, InvalidOperation, lambda: Ride(2, ("need",), value, None, None))
            if not is_int(value) or not 0 <= value < 2:
                refused(self, InvalidNumber, lambda: Ride(2, ("need",), CHART, value, None), keeps=("value", value))
            if not is_int(value) or value != 0:
                refused(self, InvalidOperation, lambda: Ride(2, ("need",), CHART, 0, value))
                refused(self, InvalidOperation, lambda: Ride(2, ("need",), CHART, 0, 0, value))
        refused(self, InvalidProgram, lambda: Ride(2, ("need", "a"), CHART, 0))
        refused(self, InvalidOperation, lambda: Ride(1, ("need",), CHART, 0))
        refused(self, InvalidOperation, lambda: Ride(2, ("other",), CHART, 0))
        refused(self, InvalidNumber, lambda: Ride(1, (), RING, 1), keeps=("value", 1))
        refused(self, InvalidOperation, lambda: Ride(2, ("need",), CHART, 0, BIG))


class LedIn(unittest.TestCase):
    STATES = {"going": "waiting", "left": "ended", "asking": "asking", "stuck": "stuck"}

    def test_runs_go_along_with_rides(self):
        dice = random.Random(162)
        made, seen = 0, {}
        while made < 300:
            modes, signals = dice.choice((1, 2)), dice.choice(((), ("s",), ("s", "t")))
            chart = some_chart(dice, modes, signals)
            if too_many(chart):
                refused(self, TooMany, lambda: led_in(modes, signals, chart), keeps=("limit", 10))
                continue
            made += 1
            one = led_in(modes, signals, chart)
            self.assertEqual((one.modes, one.signals, one["main"].parameters), (modes, signals, ()))
            self.assertNotIn("and", one.sides)
            for start in range(modes):
                ahead, many = [Ride(modes, signals, chart, start)], 0
                while ahead and many < 40:
                    here, many = ahead.pop(), many + 1
                    run = Run.of(one, start, here.choices)
                    self.assertEqual(run.state, self.STATES[here.state])
                    self.assertEqual((run.mode, run.options, run.signal), (here.mode, here.options, here.signal))
                    self.assertEqual(run.side, "or" if here.state == "going" else None)
                    seen[here.state] = seen.get(here.state, 0) + 1
                    if len(here) < 6:
                        ahead += [here + index for index in range(here.options)]
        self.assertGreater(min(seen.values()), 100)

    def test_unwinding_answers_within_answers(self):
        chart = (("a", 2, (("call", 0, 1, "b", (("s", "a", ((0, 1),)), ("t", "b", ()))), ("leave", 1), ("go", 1, 0, 0, 1), ("raise", 1, 1, "t"))),
                 ("b", 1, (("raise", 0, 0, "s"), ("raise", 0, 0, "t"), ("go", 0, 0, 1, 0), ("leave", 0))))
        one = led_in(2, ("s", "t"), chart)
        dice = random.Random(163)
        for _ in range(150):
            here = Ride(2, ("s", "t"), chart, dice.randrange(2))
            for _ in range(30):
                run = Run.of(one, here.start, here.choices)
                if run.state == "far":
                    break
                self.assertEqual((run.state, run.mode, run.options), (self.STATES[here.state], here.mode, here.options))
                if here.options == 0:
                    break
                here = here + dice.randrange(here.options)

    def test_modes_from_which_it_is_left(self):
        """[14.3]: ends and signals of rides are the goals that are reached."""
        dice = random.Random(164)
        made, seen = 0, {}
        while made < 80:
            modes, signals = dice.choice((1, 2)), ("s",)
            chart = some_chart(dice, modes, signals, most=3)
            if too_many(chart):
                continue
            made += 1
            one = led_in(modes, signals, chart)
            out = signals_out(one)
            for start in range(modes):
                ends, asks, ahead, many, is_whole = set(), False, [Ride(modes, signals, chart, start)], 0, True
                while ahead and many < 250:
                    here, many = ahead.pop(0), many + 1
                    ends |= {here.mode} if here.state == "left" else set()
                    asks = asks or here.state == "asking"
                    is_whole = is_whole and len(here) < 60
                    ahead += [here + index for index in range(here.options)] if is_whole else []
                is_whole = is_whole and not ahead
                found = {end for end in range(modes) if reached(one, ("end", 1 << end)) >> start & 1}
                asked = bool(out.get("s", 0) >> start & 1)
                self.assertTrue(ends <= found and asks <= asked)
                if is_whole:
                    self.assertEqual((ends, asks), (found, asked))
                seen[is_whole] = seen.get(is_whole, 0) + 1
        self.assertGreater(min(seen.values()), 20)

    def test_the_limit(self):
        wide = ("wide", 4, tuple(("call", at, at, "wide", ()) for at in range(4)) + (("leave", 0),))
        self.assertEqual(len(led_in(1, (), (wide, ("last", 1, ())))), 10)
        refused(self, TooMany, lambda: led_in(1, (), (wide, ("last", 2, ()))), keeps=("limit", 10))
        answer = ("need", "wide", ((0, 0),))
        unwinds = ("wide", 4, (("call", 0, 1, "wide", (answer,)), ("call", 0, 2, "wide", (answer,))))
        self.assertIn(len(led_in(2, ("need",), (unwinds, ("last", 1, ())))), (9, 10))
        refused(self, TooMany, lambda: led_in(2, ("need",), (unwinds, ("last", 2, ()))), keeps=("limit", 10))
        plain = ("wide", 4, (("call", 0, 1, "wide", (("need", "wide", ()),)),) * 2)
        led_in(2, ("need",), (plain, ("last", 3, ())))
        refused(self, TooMany, lambda: led_in(2, ("need",), (plain, ("last", 4, ()))), keeps=("limit", 10))

    def test_equal_calls_count_each(self):
        twice = ("a", 4, (("call", 0, 0, "a", ()),) * 5 + (("leave", 0),))
        one = led_in(2, (), (twice,))
        self.assertEqual([Run(one, 0, index).state for index in range(6)], ["waiting"] * 5 + ["ended"])
        refused(self, TooMany, lambda: led_in(2, (), (("a", 4, (("call", 0, 0, "a", ()),) * 6),)), keeps=("limit", 10))

    def test_many_moves_at_one_point(self):
        chart = (("a", 1, (("raise", 0, 0, "s"),) * 2 + (("go", 0, 0, 0, 1), ("go", 0, 0, 1, 1), ("go", 0, 0, 1, 0), ("leave", 0))),)
        one = led_in(2, ("s",), chart)
        self.assertEqual([Run(one, start).options for start in (0, 1)], [4, 5])
        longest = (("a", 1, (("raise", 0, 0, "s"),) * 6),)
        self.assertEqual(Run(led_in(2, ("s",), longest), 1).options, 6)

    def test_not_true(self):
        """[14.3]: a row of answers can end in another mode; open calls that answer do not count in their answers."""
        chart = (("a", 2, (("call", 0, 1, "b", (("s", "c", ()),)), ("leave", 1))), ("b", 2, (("raise", 0, 1, "s"), ("leave", 1))),
                 ("c", 2, (("go", 0, 1, 0, 1), ("leave", 1), ("raise", 0, 1, "s"))))
        self.assertEqual(reached(led_in(2, ("s",), chart), ("end", 2)), 1)
        self.assertEqual(signals_out(led_in(2, ("s",), chart)), {"s": 3})

    def test_examples(self):
        one = Ride(2, ("need",), CHART, 0, 0, 0)
        self.assertEqual(
            [one.place, one.depth, one.options, (one + 0 + 0).place, (one + 1 + 0).place, (one + 1 + 0).mode,
             (one + 1 + 0).depth, str(one)],
            [("fix", 0), 2, 2, ("asks", 1), ("first", 2), 0, 0, "ride of 2 moves, going in 0"],
        )
        found = led_in(2, ("need",), CHART)
        self.assertIs(type(found), Program)
        self.assertEqual(
            [reached(found, ("end", good)) for good in (1, 2)] + [Ride(2, ("need",), CHART, 1, 0, 0).state, signals_out(found)],
            [1, 1, "stuck", {}],
        )


if __name__ == "__main__":
    unittest.main()
