"""Stage 13: signals led into handed blocks."""

import copy
import unittest

from handedworld.ask.goals import is_keep_paper, is_reach_paper, keep_paper, kept, reach_paper, reached
from handedworld.base.procedures import Procedure, is_term
from handedworld.base.programs import Program
from handedworld.errors import InvalidGoal, InvalidMeaning, InvalidOperation, InvalidProgram, TooMany
from handedworld.reckon.books import keep_book, reach_book
from handedworld.reckon.terms import is_context
from handedworld.runs.runs import each_run, Run
from handedworld.signals.led import led, led_book, led_context
from samples import CHANCE, FIND, GIVE, Maker, TICK, refused, wrong_values
from tellings import any_context, any_map, free_signals, goals_of, wrong_goals

NOTHING = ("seq",)
UP = ("do", "up", (1, 1))
DOWN = ("do", "down", (0, 0))
FLIP = ("do", "flip", (1, 0))
ASK = ("raise", "a")
MAIN = ("main", (), ())
NEVER, SAME = (0, 0, 0, 0), (0, 1, 2, 3)
ALONE = GIVE.with_procedure(Procedure("main", (), ("or", ("call", "work"), ("seq",))))


def program(body, *rows, signals=("a", "b"), modes=2):
    return Program(modes, signals, Procedure("main", (), body), *rows)


def asking(signal, name="ask"):
    return Procedure(name, (), ("raise", signal))


# -- [13.1] told once more: each raise and call looks for its answer in the text around it --


def led_again(one):
    """The parameters and bodies of the led program, by looking up what stands around each place."""
    frees = {name: free_signals(one, name) for name in one.names}

    def inner(body, place):
        for at in place:
            body = body[at]
        return body

    def stands(name, signal, place):
        """What stands for a signal at a place: the path of indices from the body to the term."""
        body = one[name].body
        for cut in range(len(place) - 1, -1, -1):
            term = inner(body, place[:cut])
            # A place goes through the last term of an answer by the index 2, through an answering term by the index 1.
            if type(term) is tuple and term[:1] == ("answer",) and place[cut] == 2 and signal in dict(term[1]):
                at = [pair[0] for pair in term[1]].index(signal)
                return lead(name, place[:cut] + (1, at, 1))
        return ("run", signal) if name != "main" else ("do", signal, (None,) * one.modes)

    def lead(name, place):
        term = inner(one[name].body, place)
        word = term[0]
        if word == "raise":
            return stands(name, term[1], place)
        if word == "answer":
            return lead(name, place + (2,))
        if word in ("seq", "or", "and", "case"):
            return (word,) + tuple(lead(name, place + (at,)) for at in range(1, len(term)))
        if word == "scope":
            return term[:2] + (lead(name, place + (2,)),)
        if word == "call":
            handed = tuple(lead(name, place + (at,)) for at in range(2, len(term)))
            return term[:2] + handed + tuple(stands(name, signal, place) for signal in frees[term[1]])
        return term

    rows = []
    for procedure in one.procedures:
        more = () if procedure.named == "main" else frees[procedure.named]
        rows.append((procedure.named, procedure.parameters + more, lead(procedure.named, ())))
    return rows


def sizes(term):
    """The number of the terms, the depth and the labels of a led term."""
    word = term[0]
    parts = term[2:] if word in ("call", "scope") else term[1:] if word in ("seq", "or", "and", "case") else ()
    rows = [sizes(part) for part in parts]
    labels = [term[1]] if word == "scope" else []
    for row in rows:
        labels = labels + row[2]
    return 1 + sum(row[0] for row in rows), 1 + max([row[1] for row in rows], default=0), labels


def refusal(one):
    """The error that led has to raise and its limit, or None."""
    rows = led_again(one)
    told = [sizes(body) for _, _, body in rows]
    if any(set(procedure.parameters) & set(free_signals(one, procedure.named)) for procedure in one.procedures):
        return InvalidOperation, None
    if free_signals(one, "main") and any("main" in procedure.uses for procedure in one.procedures):
        return InvalidOperation, None
    if any(len(set(labels)) < len(labels) for _, _, labels in told):
        return InvalidOperation, None
    if any(len(parameters) > 3 for _, parameters, _ in rows):
        return TooMany, 3
    if any(many > 40 for many, _, _ in told):
        return TooMany, 40
    if any(deep > 6 for _, deep, _ in told):
        return TooMany, 6
    return None


class Rules(unittest.TestCase):
    """Each rule of [13.1]."""

    def leads(self, one, name, parameters, body):
        found = led(one)
        self.assertEqual((found[name].parameters, found[name].body), (parameters, body))
        self.assertEqual((found.modes, found.signals), (one.modes, ()))
        self.assertEqual([row.named for row in found.procedures], [row.named for row in one.procedures])

    def test_parameters(self):
        body = ("seq", ("raise", "b"), ("run", "x"), ASK)
        rows = Procedure("p", ("x",), body), Procedure("quiet", ("x",), ("run", "x"))
        one = program(NOTHING, *rows)
        self.leads(one, "p", ("x", "a", "b"), ("seq", ("run", "b"), ("run", "x"), ("run", "a")))
        self.leads(one, "quiet", ("x",), ("run", "x"))
        self.leads(one, "main", (), NOTHING)

    def test_raises(self):
        one = program(("answer", (("a", UP), ("b", DOWN)), ("seq", ASK, ("raise", "b"), ASK)))
        self.leads(one, "main", (), ("seq", UP, DOWN, UP))
        one = program(("seq", ASK, ("answer", (("b", UP),), ("seq", ASK, ("raise", "b")))))
        bar = ("do", "a", (None, None))
        self.leads(one, "main", (), ("seq", bar, ("seq", bar, UP)))
        self.leads(program(ASK, modes=3), "main", (), ("do", "a", (None, None, None)))

    def test_the_nearest_answer(self):
        near = ("answer", (("a", UP),), ("seq", ASK, ("answer", (("a", DOWN),), ASK), ASK))
        self.leads(program(near), "main", (), ("seq", UP, DOWN, UP))

    def test_answers_within_answers(self):
        inner = ("answer", (("a", ("seq", ASK, FLIP)),), ("seq", ASK, DOWN))
        self.leads(program(("answer", (("a", UP),), inner)), "main", (), ("seq", ("seq", UP, FLIP), DOWN))
        beside = ("answer", (("a", ("raise", "b")), ("b", ASK)), ("seq", ASK, ("raise", "b")))
        self.leads(program(("answer", (("b", UP),), beside)), "main", (), ("seq", UP, ("do", "a", (None, None))))
        within = ("answer", (("a", ("answer", (("b", DOWN),), ("seq", ("raise", "b"), ASK))),), ASK)
        self.leads(program(("answer", (("a", UP),), within)), "main", (), ("seq", DOWN, UP))

    def test_answers_of_which_nothing_is_raised(self):
        self.leads(program(("answer", (("a", ("scope", "l", UP)),), FLIP)), "main", (), FLIP)

    def test_calls(self):
        rows = asking("b", "q"), Procedure("p", ("x",), ("seq", ASK, ("run", "x"), ("call", "q")))
        one = program(("answer", (("a", UP),), ("call", "p", ("raise", "b"))), *rows)
        bar = ("do", "b", (None, None))
        self.leads(one, "main", (), ("call", "p", bar, UP, bar))
        self.leads(one, "p", ("x", "a", "b"), ("seq", ("run", "a"), ("run", "x"), ("call", "q", ("run", "b"))))
        self.leads(one, "q", ("b",), ("run", "b"))

    def test_calls_in_answering_terms(self):
        one = program(("answer", (("b", UP),), ("answer", (("a", ("call", "q")),), ("call", "p"))), asking("b", "q"), asking("a", "p"))
        self.leads(one, "main", (), ("call", "p", ("call", "q", UP)))

    def test_calls_in_a_ring(self):
        one = program(
            ("answer", (("a", UP),), ("call", "p")),
            Procedure("p", (), ("or", ASK, ("answer", (("a", ("seq", ASK, DOWN)),), ("call", "p")))),
        )
        self.leads(one, "p", ("a",), ("or", ("run", "a"), ("call", "p", ("seq", ("run", "a"), DOWN))))

    def test_all_else_stays(self):
        body = ("scope", "l", ("or", ("and", UP), ("case", ("exit", "l"), NOTHING), ("seq", ("call", "p", FLIP))))
        one = program(body, Procedure("p", ("x",), ("scope", "m", ("run", "x"))))
        self.assertEqual(led(one), one.with_signals(()))

    def test_programs_without_signals_and_led_ones(self):
        for one in (CHANCE, FIND, TICK):
            self.assertEqual(led(one), one)
        self.assertEqual(led(led(GIVE)), led(GIVE))
        self.assertEqual(led(CHANCE.with_signals(("a",))), CHANCE)

    def test_told_once_more(self):
        maker = Maker(151)
        seen = {}
        for turn in range(400):
            one = maker.program(depth=(3, 4, 5)[turn % 3], loops=turn % 2 == 0, signals=(("hey",), ("ask", "hey"))[turn % 5 > 0])
            expected = refusal(one)
            seen[expected] = seen.get(expected, 0) + 1
            if expected is None:
                rows = [(row.named, row.parameters, row.body) for row in led(one).procedures]
                self.assertEqual(rows, led_again(one))
                self.assertEqual(led(led(one)), led(one))
            elif expected[1] is None:
                refused(self, expected[0], lambda: led(one))
            else:
                refused(self, expected[0], lambda: led(one), keeps=("limit", expected[1]))
        self.assertGreater(min(seen[None], seen[(InvalidOperation, None)], seen[(TooMany, 3)]), 20)


class Refusals(unittest.TestCase):
    LONG = ("answer", (("a", ("seq",) + (UP,) * 12),), ("seq", ASK, ASK, ASK, ASK))
    DEEP = ("answer", (("a", ("seq", ("seq", ("seq", UP)))),), ("seq", ("seq", ("seq", ASK))))
    WIDE = Procedure("wide", ("x", "y", "z"), ASK)
    TWICE = ("answer", (("a", ("scope", "l", UP)),), ("seq", ASK, ASK))
    NAMED = Procedure("named", ("a",), ("seq", ("run", "a"), ASK))

    def test_each_alone(self):
        refused(self, InvalidOperation, lambda: led(program(NOTHING, self.NAMED)))
        refused(self, InvalidOperation, lambda: led(program(("or", ASK, ("call", "main")))))
        refused(self, InvalidOperation, lambda: led(program(ASK, Procedure("p", (), ("call", "main")))))
        refused(self, InvalidOperation, lambda: led(program(self.TWICE)))
        refused(self, TooMany, lambda: led(program(NOTHING, self.WIDE)), keeps=("limit", 3))
        refused(self, TooMany, lambda: led(program(self.LONG)), keeps=("limit", 40))
        refused(self, TooMany, lambda: led(program(self.DEEP)), keeps=("limit", 6))

    def test_just_not(self):
        named = Procedure("named", ("a",), ("seq", ("run", "a"), ("answer", (("a", UP),), ASK)))
        led(program(NOTHING, named, Procedure("other", ("b",), ASK)))
        led(program(("or", ("answer", (("a", UP),), ASK), ("call", "main"))))
        led(program(("answer", (("a", ("scope", "l", UP)),), ASK)))
        self.assertEqual(len(led(program(NOTHING, Procedure("wide", ("x", "y"), ASK)))["wide"].parameters), 3)
        forty = ("answer", (("a", ("seq",) + (UP,) * 12),), ("seq", ASK, ASK, ASK))
        self.assertEqual(len(led(program(forty))["main"]), 40)
        deep = ("answer", (("a", ("seq", ("seq", UP))),), ("seq", ("seq", ("seq", ASK))))
        self.assertEqual(sizes(led(program(deep))["main"].body)[1], 6)

    def test_labels_of_answers_that_are_handed(self):
        rows = Procedure("two", (), ("seq", ASK, ("raise", "b"))), asking("a")
        body = ("answer", (("a", ("scope", "l", UP)), ("b", DOWN)), ("call", "two"))
        self.assertEqual(led(program(body, *rows))["main"].body, ("call", "two", ("scope", "l", UP), DOWN))
        body = ("answer", (("a", ("scope", "l", UP)), ("b", DOWN)), ("seq", ("call", "two"), ("call", "ask")))
        refused(self, InvalidOperation, lambda: led(program(body, *rows)))

    def test_several_at_once(self):
        """An operation that is invalid comes first; then sizes, each of all procedures together."""
        long, deep = Procedure("long", (), self.LONG), Procedure("deep", (), self.DEEP)
        for first in (program(self.TWICE, self.WIDE, long, deep), program(ASK, Procedure("p", (), ("call", "main")), self.WIDE, long)):
            refused(self, InvalidOperation, lambda: led(first))
        refused(self, InvalidOperation, lambda: led(program(self.DEEP, self.WIDE, self.NAMED)))
        refused(self, TooMany, lambda: led(program(self.DEEP, long, self.WIDE)), keeps=("limit", 3))
        refused(self, TooMany, lambda: led(program(self.LONG, deep, self.WIDE)), keeps=("limit", 3))
        refused(self, TooMany, lambda: led(program(self.DEEP, long)), keeps=("limit", 40))
        refused(self, TooMany, lambda: led(program(self.LONG, deep)), keeps=("limit", 40))
        refused(self, TooMany, lambda: led(program(NOTHING, deep)), keeps=("limit", 6))

    def test_bodies_that_would_be_very_long(self):
        body = ASK
        for many in (10, 10, 10):
            body = ("answer", (("a", ("seq",) + (ASK,) * many),), body)
        one = program(("answer", (("a", UP),), body))
        self.assertEqual(len(one["main"]), 39)
        refused(self, TooMany, lambda: led(one), keeps=("limit", 40))

    def test_wrong_programs(self):
        for value in wrong_values():
            if type(value) is not Program:
                refused(self, InvalidProgram, lambda: led(value))
                refused(self, InvalidProgram, lambda: led_context(value, None))
                refused(self, InvalidProgram, lambda: led_book(value, None, None))


def leadable(maker, many, **told):
    """So many programs with signals that can be led, with their led ones."""
    found = 0
    while found < many:
        one = maker.program(signals=("ask", "hey")[maker.dice.randint(0, 1):], **told)
        if refusal(one) is None:
            found += 1
            yield one, led(one)


class Along(unittest.TestCase):
    """[13.2]."""

    def test_runs(self):
        maker = Maker(152)
        seen = {}
        for turn, (one, two) in enumerate(leadable(maker, 200, depth=4, loops=True)):
            for mode in range(one.modes):
                for run in each_run(one, mode, 4):
                    other = Run.of(two, mode, run.choices) if run.state != "far" else None
                    if other is None or other.state == "far":
                        continue
                    seen[run.state] = seen.get(run.state, 0) + 1
                    self.assertEqual(other.state, {"asking": "stuck"}.get(run.state, run.state))
                    self.assertEqual((other.words, other.modes, other.side, other.options),
                                     (run.words, run.modes, run.side, run.options))
        self.assertGreater(min(seen[state] for state in ("ended", "stuck", "asking", "waiting")), 20)

    def test_goals(self):
        for one, two in leadable(Maker(153), 120, depth=4, loops=True):
            for goal in goals_of(one):
                if goal[0] != "signal":
                    self.assertEqual((reached(one, goal), kept(one, goal)), (reached(two, goal), kept(two, goal)))

    def test_papers(self):
        maker = Maker(154)
        seen = set()
        for one, two in leadable(maker, 80, depth=4, loops=True):
            goal = maker.dice.choice([goal for goal in goals_of(one) if goal[0] != "signal"])
            for mode in range(one.modes):
                for found, judge in ((reach_paper, is_reach_paper), (keep_paper, is_keep_paper)):
                    kind, value = found(one, mode, goal)
                    if type(value) is dict:
                        other = led_book(one, goal, value)
                    else:
                        other = tuple(led_book(one, goal, book) for book in value)
                    self.assertIs(judge(two, mode, goal, (kind, other)), True)
                    seen.add(kind)
        self.assertEqual(len(seen), 4)

    def test_contexts_become_contexts(self):
        maker = Maker(155)
        left_out = 0
        for one, two in leadable(maker, 60, depth=3, loops=True):
            for name in one.names:
                for monotone in (True, False):
                    name, meanings, answers = any_context(one, name, maker.dice, monotone)
                    found = led_context(one, (name, meanings, answers))
                    if name != "main":
                        self.assertEqual(found, (name, meanings + answers, ()))
                        self.assertIs(is_context(two, found), True)
                    else:
                        self.assertEqual(found, MAIN if not any(map(any, answers)) else None)
                        left_out += found is None
            never = (0,) * 2**one.modes
            free = free_signals(one, "main")
            self.assertEqual(led_context(one, ("main", (), (never,) * len(free))), MAIN)
        self.assertGreater(left_out, 5)

    def test_books(self):
        context, other = ("work", (), (SAME,)), ("work", (), ((3, 0, 0, 0),))
        book = {other: NEVER, ("main", (), (NEVER,)): SAME, context: (1, 1, 1, 1), ("main", (), (SAME,)): NEVER}
        expected = {MAIN: SAME, ("work", (SAME,), ()): (1, 1, 1, 1), ("work", ((3, 0, 0, 0),), ()): NEVER}
        before = copy.deepcopy(list(book.items()))
        for goal in (("end", 1), ("deed", "use")):
            found = led_book(ALONE, goal, book)
            self.assertEqual(found, expected)
            self.assertEqual(list(found), sorted(expected))
        found.clear()
        self.assertEqual(list(book.items()), before)
        self.assertEqual(led_book(ALONE, ("end", 0), {}), {})
        for made in (reach_book, keep_book):
            self.assertEqual(led_book(GIVE, ("end", 2), made(GIVE, ("end", 2))), made(led(GIVE), ("end", 2)))

    def test_programs_that_cannot_be_led_have_contexts_that_become_others(self):
        one = program(ASK, Refusals.WIDE, Refusals.NAMED)
        self.assertEqual(led_context(one, ("wide", (SAME,) * 3, (NEVER,))), ("wide", (SAME,) * 3 + (NEVER,), ()))
        self.assertEqual(led_book(one, ("end", 0), {("main", (), (SAME,)): SAME}), {})

    def test_wrong_arguments(self):
        for value in wrong_values():
            if type(value) is not tuple or value != MAIN:
                refused(self, InvalidOperation, lambda: led_context(GIVE, value))
            if type(value) is not dict or value != {}:
                refused(self, InvalidMeaning, lambda: led_book(GIVE, ("end", 0), value))
        for value in (("work", (), ()), ("work", (SAME,), ()), ("main", (), (SAME,)), ["main", (), ()], ("work", (), ((0, 1, 2, 4),))):
            refused(self, InvalidOperation, lambda: led_context(GIVE, value))
            if type(value) is tuple:
                refused(self, InvalidMeaning, lambda: led_book(GIVE, ("end", 0), {value: SAME}))
        refused(self, InvalidMeaning, lambda: led_book(GIVE, ("end", 0), {MAIN: (0, 1, 2)}))
        for goal in wrong_goals(GIVE) + [("signal", "need")]:
            refused(self, InvalidGoal, lambda: led_book(GIVE, goal, {}))
            refused(self, InvalidGoal, lambda: led_book(GIVE, goal, None))


class NotTrue(unittest.TestCase):
    """[13.3]: programs that show that these sentences are not true."""

    def test_two_answers_are_not_both_at_once(self):
        inner = ("answer", (("a", ("raise", "b")),), ASK)
        within = program(("answer", (("b", UP),), inner))
        at_once = program(("answer", (("a", ("raise", "b")), ("b", UP)), ASK))
        self.assertEqual([reached(within, ("end", 2)), reached(at_once, ("end", 2))], [3, 0])

    def test_answered_around_each_call_and_still_out(self):
        one = program(("answer", (("a", ("call", "main")),), ("call", "ask")), asking("a"))
        self.assertEqual(reached(one, ("signal", "a")), 0)
        two = program(("answer", (("a", ASK),), ("call", "ask")), asking("a"))
        self.assertEqual(reached(two, ("signal", "a")), 3)

    def test_an_exit_leaves_the_scope_around_its_text(self):
        inner = Procedure("ask", (), ("scope", "near", ("seq", ASK, UP)))
        one = program(("scope", "far", ("seq", ("answer", (("a", ("exit", "far")),), ("call", "ask")), FLIP)), inner)
        self.assertEqual(Run(one, 0).words, ())
        self.assertEqual(Run(led(one), 0).words, ())
        self.assertTrue(is_term(led(one)["main"].body, ()))

    def test_examples(self):
        self.assertEqual(
            [led(GIVE)["work"].parameters, led(GIVE)["work"].body, led(GIVE)["main"].body, led(GIVE).signals, led(ALONE)["main"].body],
            [("need",), ("seq", ("run", "need"), ("do", "use", (None, 1))), ("call", "work", ("do", "give", (1, 1))), (),
             ("or", ("call", "work", ("do", "need", (None, None))), ("seq",))],
        )
        self.assertEqual(
            [led_context(GIVE, ("work", (), ((0, 0, 3, 3),))), [reached(led(GIVE), ("end", good)) for good in (1, 2)],
             reached(led(ALONE), ("end", 2))],
            [("work", ((0, 0, 3, 3),), ()), [0, 3], 2],
        )


if __name__ == "__main__":
    unittest.main()
