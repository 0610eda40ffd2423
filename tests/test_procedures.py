"""[0.7], [0.8], [2.1]: terms and procedures."""

import random
import unittest

from handedworld.base import procedures
from handedworld.base.procedures import Procedure, is_term
from handedworld.errors import InvalidProgram
from samples import BIG, CHANCE, EACH, FIND, GIVE, Maker, WORK, is_int, is_word, refused, wrong_values

NOTHING = ("seq",)
DEED = ("do", "go", (0,))


def scoped(term):
    """A term in which one can leave by "out"."""
    return ("scope", "out", term)


def parts_of(term):
    """The terms in a term, told once more for these tests."""
    if term[0] == "answer":
        return [pair[1] for pair in term[1]] + [term[2]]
    return [part for part in term[1:] if type(part) is tuple and part and type(part[0]) is str]


def all_in(term):
    return [term] + [one for part in parts_of(term) for one in all_in(part)]


def fits(value, parameters, labels=(), depth=1):
    """The rules of [0.8] and [2.1], told once more from above; labels twice and the number of terms apart."""
    if type(value) is not tuple or not value or type(value[0]) is not str or depth > 6:
        return False
    word, rest = value[0], value[1:]

    def all_fit(terms, around=labels):
        return all(fits(term, parameters, around, depth + 1) for term in terms)

    if word == "do":
        if len(rest) != 2 or not is_word(rest[0]) or type(rest[1]) is not tuple or len(rest[1]) not in (1, 2, 3):
            return False
        return all(entry is None or is_int(entry) and entry in (0, 1, 2) for entry in rest[1])
    if word == "seq":
        return all_fit(rest)
    if word in ("or", "and"):
        return len(rest) > 0 and all_fit(rest)
    if word == "case":
        return len(rest) in (1, 2, 3) and all_fit(rest)
    if word == "run":
        return len(rest) == 1 and is_word(rest[0]) and rest[0] in parameters
    if word == "call":
        return len(rest) > 0 and is_word(rest[0]) and all_fit(rest[1:])
    if word == "scope":
        return len(rest) == 2 and is_word(rest[0]) and all_fit(rest[1:], labels + (rest[0],))
    if word == "exit":
        return len(rest) == 1 and is_word(rest[0]) and rest[0] in labels
    if word == "raise":
        return len(rest) == 1 and is_word(rest[0])
    if word == "answer":
        if len(rest) != 2 or type(rest[0]) is not tuple or not rest[0]:
            return False
        if not all(type(pair) is tuple and len(pair) == 2 and is_word(pair[0]) for pair in rest[0]):
            return False
        signals = [pair[0] for pair in rest[0]]
        return signals == sorted(set(signals)) and all_fit([pair[1] for pair in rest[0]] + [rest[1]])
    return False


def is_body(value, parameters):
    """Whether a value can be a body, by these tests."""
    if not fits(value, parameters):
        return False
    terms = all_in(value)
    labels = [term[1] for term in terms if term[0] == "scope"]
    return len(terms) <= 40 and len(set(labels)) == len(labels)


def changed(value, dice):
    """A value with something left out, put in, exchanged or of another kind, somewhere."""
    if type(value) is tuple and value and dice.random() < 0.75:
        at = dice.randrange(len(value))
        return value[:at] + (changed(value[at], dice),) + value[at + 1:]
    if type(value) is tuple and value and dice.random() < 0.6:
        at = dice.randrange(len(value))
        way = dice.randrange(5)
        if way == 0:
            return value[:at] + value[at + 1:]
        if way == 1:
            return value[:at] + (dice.choice(value),) + value[at:]
        if way == 2:
            return value[:at] + value[at:][::-1]
        if way == 3:
            return list(value)
        return value[:at] + (dice.choice((None, True, 0, "seq", "out", (), NOTHING, ("exit", "out"))),) + value[at + 1:]
    return dice.choice((None, True, False, 0, 1, 2, 3, -1, BIG, "a", "x", "out", "abcdefghi", "", (), [], {}, NOTHING, ("run", "x")))


class Forms(unittest.TestCase):
    def right(self, *terms):
        for term in terms:
            self.assertIs(is_term(term, ("x",)), True, term)
            self.assertEqual(Procedure("p", ("x",), term).body, term)

    def wrong(self, *terms):
        for term in terms:
            self.assertIs(is_term(term, ("x",)), False, term)
            refused(self, InvalidProgram, lambda: Procedure("p", ("x",), term))

    def test_deeds(self):
        self.right(("do", "go", (0,)), ("do", "go", (None,)), ("do", "abcdefgh", (0, 1)), ("do", "a", (2, None, 1)))
        self.wrong(("do",), ("do", "go"), ("do", "go", (0,), (0,)), ("do", (0,), "go"), ("do", "go", ()))
        self.wrong(("do", "go", (0, 0, 0, 0)), ("do", "go", [0]), ["do", "go", (0,)], ("do", "go", 0), ("do", "go", None))
        self.wrong(("do", "", (0,)), ("do", "Go", (0,)), ("do", "abcdefghi", (0,)), ("do", None, (0,)), ("do", 1, (0,)))
        self.wrong(("do", "go", {0: 0}), ("do", "go", "a"), ("do", "go", ((0,),)), ("do", "go", ("",)))

    def test_entries(self):
        for entry in (0, 1, 2, None):
            self.right(("do", "go", (entry,)), ("do", "go", (0, entry)), ("do", "go", (0, 0, entry)))
        for entry in (-1, 3, True, False, "", "a", (), [], BIG, -BIG, GIVE):
            self.wrong(("do", "go", (entry,)), ("do", "go", (0, entry)), ("do", "go", (0, 0, entry)))

    def test_sequences(self):
        self.right(NOTHING, ("seq", DEED), ("seq", DEED, NOTHING, DEED), ("seq", ("seq", ("seq",))))
        self.wrong(["seq"], ("seq", None), ("seq", DEED, 0), ("seq", ()), ("seq", (DEED,)), ("seq", [DEED]), ("seq", "seq"))

    def test_choices(self):
        for word in ("or", "and"):
            self.right((word, DEED), (word, DEED, DEED), (word, NOTHING, (word, DEED)))
            self.wrong((word,), (word, None), (word, (DEED, DEED)), (word, "a", DEED), [word, DEED], (word, True))

    def test_cases(self):
        self.right(("case", DEED), ("case", DEED, NOTHING), ("case", DEED, DEED, DEED))
        self.wrong(("case",), ("case", DEED, DEED, DEED, DEED), ("case", None), ("case", (DEED,)), ["case", DEED])

    def test_running(self):
        self.right(("run", "x"))
        self.wrong(("run",), ("run", "x", "x"), ("run", "y"), ("run", None), ("run", ("x",)), ("run", DEED), ["run", "x"])
        self.assertIs(is_term(("run", "x"), ()), False)
        self.assertIs(is_term(("seq", ("call", "p", ("run", "z"))), ("x", "y", "z")), True)
        self.assertIs(is_term(("seq", ("call", "p", ("run", "z"))), ("x", "y")), False)

    def test_calls(self):
        self.right(("call", "p"), ("call", "main"), ("call", "q", DEED), ("call", "q", DEED, ("run", "x"), NOTHING))
        self.wrong(("call",), ("call", DEED), ("call", None), ("call", "q", None), ("call", "q", (DEED, DEED)))
        self.wrong(("call", "Q"), ("call", "q", "q"), ["call", "q"], ("call", 1, DEED))

    def test_scopes(self):
        self.right(scoped(DEED), scoped(("scope", "in", DEED)))
        self.wrong(("scope",), ("scope", "out"), ("scope", DEED), ("scope", "out", DEED, DEED), ("scope", DEED, "out"))
        self.wrong(("scope", None, DEED), ("scope", "OUT", DEED), ["scope", "out", DEED], ("scope", "out", None))

    def test_a_label_twice(self):
        self.wrong(scoped(scoped(DEED)), ("seq", scoped(DEED), scoped(DEED)))
        self.wrong(("call", "p", scoped(DEED), scoped(NOTHING)), ("or", scoped(DEED), ("seq", scoped(DEED))))
        self.wrong(("answer", (("s", scoped(DEED)),), scoped(DEED)))
        self.right(("seq", scoped(DEED), ("scope", "in", DEED)))

    def test_exits(self):
        self.right(scoped(("exit", "out")), scoped(("seq", ("exit", "out"), DEED, ("exit", "out"))))
        self.right(scoped(("call", "p", ("exit", "out"))), scoped(("call", "p", ("call", "p", ("exit", "out")))))
        self.right(scoped(("answer", (("s", ("exit", "out")),), DEED)), scoped(("answer", (("s", DEED),), ("exit", "out"))))
        self.right(scoped(("scope", "in", ("or", ("exit", "out"), ("exit", "in")))), scoped(("case", ("exit", "out"))))
        self.wrong(("exit", "out"), ("seq", scoped(DEED), ("exit", "out")), ("seq", ("exit", "out"), scoped(DEED)))
        self.wrong(scoped(("exit", "in")), ("answer", (("s", ("exit", "out")),), scoped(DEED)), ("exit",))
        self.wrong(("answer", (("s", scoped(DEED)),), ("exit", "out")), ("call", "p", scoped(DEED), ("exit", "out")))
        self.wrong(scoped(("exit",)), scoped(("exit", "out", "out")), scoped(("exit", ("out",))), scoped(["exit", "out"]))

    def test_raises(self):
        self.right(("raise", "s"), ("raise", "x"), ("raise", "abcdefgh"))
        self.wrong(("raise",), ("raise", "s", "s"), ("raise", "S"), ("raise", None), ("raise", ("s",)), ["raise", "s"])

    def test_answers(self):
        self.right(("answer", (("s", DEED),), NOTHING), ("answer", (("a", DEED), ("b", DEED)), NOTHING))
        self.right(("answer", (("s", ("raise", "s")),), ("answer", (("s", DEED),), ("raise", "s"))))
        self.right(("answer", (("a", DEED), ("ab", DEED), ("b", DEED)), NOTHING))
        self.wrong(("answer", (), NOTHING), ("answer", (("s", DEED),)), ("answer", NOTHING), ("answer", ("s", DEED), NOTHING))
        self.wrong(("answer", (("s", DEED), ("s", DEED)), NOTHING), ("answer", (("b", DEED), ("a", DEED)), NOTHING))
        self.wrong(("answer", [("s", DEED)], NOTHING), ("answer", (["s", DEED],), NOTHING), ("answer", {"s": DEED}, NOTHING))
        self.wrong(("answer", (("s",),), NOTHING), ("answer", (("s", DEED, DEED),), NOTHING), ("answer", ((DEED, "s"),), NOTHING))
        self.wrong(("answer", (("s", DEED),), NOTHING, NOTHING), ("answer", (("s", DEED),), None), ("answer", None, NOTHING))
        self.wrong(("answer", (("s", None),), NOTHING), ("answer", (("S", DEED),), NOTHING), ("answer", ((None, DEED),), NOTHING))

    def test_other_words(self):
        self.wrong((), ("",), ("Seq",), ("go", DEED), ("seq ",), (None,), (DEED,), ("do seq",), "seq", None, DEED[1:])
        self.wrong(("loop", DEED), ((),), (("seq",),), (["seq"],), ({},), (GIVE,), (True, DEED))

    def test_depth(self):
        for wrap in (
            lambda term: ("seq", term),
            lambda term: ("or", term),
            lambda term: ("and", DEED, term),
            lambda term: ("case", term),
            lambda term: ("call", "p", term),
            lambda term: ("answer", (("s", term),), NOTHING),
            lambda term: ("answer", (("s", NOTHING),), term),
        ):
            term = DEED
            for depth in range(1, 12):
                self.assertIs(is_term(term, ()), depth <= 6, term)
                term = wrap(term)
        term = DEED
        for depth in range(1, 12):
            self.assertIs(is_term(term, ()), depth <= 6)
            term = ("scope", "abcdefghijkl"[depth], term)

    def test_number_of_terms(self):
        for many in (1, 2, 39, 40, 41, 42, 400):
            self.assertIs(is_term(("seq",) + (DEED,) * (many - 1), ()), many <= 40)
            self.assertIs(is_term(("call", "p") + (DEED,) * (many - 1), ()), many <= 40)
        tree = ("seq", *[("or", *[DEED] * 12)] * 3)
        self.assertIs(is_term(tree, ()), True)
        self.assertEqual(len(Procedure("p", (), tree)), 40)
        self.assertIs(is_term(tree + (DEED,), ()), False)
        answer = ("answer", tuple((letter, DEED) for letter in "abcdefghijklmnopqrstuvwxyz"), ("seq", *[DEED] * 12))
        self.assertIs(is_term(answer, ()), True)
        self.assertEqual(len(Procedure("p", (), answer)), 40)
        self.assertIs(is_term(answer[:2] + (answer[2] + (DEED,),), ()), False)

    def test_very_deep_and_very_long_values(self):
        deep = DEED
        for _ in range(19):
            deep = ("seq", deep)
        wide = NOTHING
        for _ in range(19):
            wide = ("seq",) + (wide,) * 30
        huge = ("or",) + (("seq",) * 100000,) * 100000
        long = ("seq",) * 200000
        answers = ("answer", (("s", DEED),) * 100000, DEED)
        table = ("do", "go", (0,) * 100000)
        for value in (deep, wide, huge, long, answers, table, ("seq",) + (DEED,) * 200000, "seq" * 100000):
            self.assertIs(is_term(value, ()), False)

    def test_against_the_rules_told_once_more(self):
        dice = random.Random(2)
        maker = Maker(3)
        seen = {True: 0, False: 0}
        for _ in range(500):
            program = maker.program(depth=5, loops=True)
            term = program[dice.choice(program.names)].body
            for _ in range(10):
                other = changed(term, dice)
                expected = is_body(other, ("x", "y"))
                seen[expected] += 1
                self.assertIs(is_term(other, ("x", "y")), expected, other)
        self.assertGreater(min(seen.values()), 300)

    def test_all_kinds_of_values(self):
        for value in wrong_values():
            self.assertIs(is_term(value, ()), is_body(value, ()))
            for wrapped in (("seq", value), ("scope", "a", value), ("call", value), ("answer", (("s", value),), DEED), (value,)):
                self.assertIs(is_term(wrapped, ()), is_body(wrapped, ()))

    def test_wrong_parameters(self):
        for value in (None, "xyz", ["x"], {"x": 1}, ("x", "x"), ("w", "x", "y", "z"), ("X",), (1,), (None,), ("",), (("x",),), 0, True):
            refused(self, InvalidProgram, lambda: is_term(NOTHING, value))
            refused(self, InvalidProgram, lambda: is_term(None, value))
            refused(self, InvalidProgram, lambda: Procedure("p", value, NOTHING))
        for value in ((), ("x",), ("y", "x"), ("z", "x", "y"), ("main", "x", "do")):
            self.assertIs(is_term(NOTHING, value), True)
            self.assertEqual(Procedure("p", value, NOTHING).parameters, value)


RICH = (
    "answer",
    (("a", ("raise", "z")), ("m", ("call", "q", ("do", "up", (0, 1))))),
    (
        "seq",
        ("scope", "out", ("call", "p", ("exit", "out"), ("scope", "in", ("raise", "k")))),
        ("or", ("do", "up", (1, 1)), ("do", "down", (None, 0)), ("call", "p", ("run", "x"))),
        ("and", ("case", ("raise", "m"), ("do", "all", (0, 0)))),
    ),
)


class Procedures(unittest.TestCase):
    def test_constants(self):
        self.assertEqual((procedures.MAX_PARAMETERS, procedures.MAX_DEPTH, procedures.MAX_TERMS), (3, 6, 40))

    def test_properties(self):
        one = Procedure("rich", ("y", "x"), RICH)
        self.assertEqual(one.named, "rich")
        self.assertEqual(one.parameters, ("y", "x"))
        self.assertEqual(one.body, RICH)
        self.assertEqual(one.words, ("all", "down", "up"))
        self.assertEqual(one.signals, ("a", "k", "m", "z"))
        self.assertEqual(one.labels, ("in", "out"))
        self.assertEqual(one.uses, ("p", "q"))
        self.assertEqual(len(one), 19)
        self.assertEqual(str(one), "procedure rich, 2 parameters, 19 terms")

    def test_properties_of_little(self):
        one = Procedure("p", (), NOTHING)
        self.assertEqual((one.words, one.signals, one.labels, one.uses), ((), (), (), ()))
        self.assertEqual(str(one), "procedure p, 0 parameters, 1 terms")
        self.assertEqual(Procedure("p", (), ("answer", (("s", NOTHING),), NOTHING)).signals, ("s",))
        self.assertEqual(Procedure("p", (), ("raise", "s")).signals, ("s",))

    def test_properties_against_all_terms(self):
        maker = Maker(5)
        for _ in range(60):
            for one in maker.program(depth=5, loops=True).procedures:
                terms = all_in(one.body)
                self.assertEqual(len(one), len(terms))
                self.assertEqual(one.words, tuple(sorted({term[1] for term in terms if term[0] == "do"})))
                self.assertEqual(one.labels, tuple(sorted({term[1] for term in terms if term[0] == "scope"})))
                self.assertEqual(one.uses, tuple(sorted({term[1] for term in terms if term[0] == "call"})))
                signals = {term[1] for term in terms if term[0] == "raise"}
                signals |= {pair[0] for term in terms if term[0] == "answer" for pair in term[1]}
                self.assertEqual(one.signals, tuple(sorted(signals)))

    def test_equal_and_not(self):
        one = Procedure("p", ("x",), DEED)
        self.assertTrue(one == Procedure("p", ("x",), ("do", "go", (0,))))
        self.assertFalse(one != Procedure("p", ("x",), ("do", "go", (0,))))
        for other in (Procedure("q", ("x",), DEED), Procedure("p", ("y",), DEED), Procedure("p", (), DEED)):
            self.assertFalse(one == other)
            self.assertTrue(one != other)
        self.assertFalse(one == Procedure("p", ("x",), NOTHING))
        for value in wrong_values():
            self.assertIs(one == value, False)
            self.assertIs(one != value, True)

    def test_wrong_arguments(self):
        for value in wrong_values():
            if not is_word(value):
                refused(self, InvalidProgram, lambda: Procedure(value, (), NOTHING))
            if not is_body(value, ()):
                refused(self, InvalidProgram, lambda: Procedure("p", (), value))
            refused(self, InvalidProgram, lambda: Procedure("P", value, ["seq"]))

    def test_it_never_changes(self):
        one = Procedure("rich", ("y", "x"), RICH)
        for name in ("named", "parameters", "body", "words", "signals", "labels", "uses"):
            with self.assertRaises(AttributeError):
                setattr(one, name, ())
        self.assertEqual(one, Procedure("rich", ("y", "x"), RICH))

    def test_no_iteration(self):
        with self.assertRaises(TypeError):
            iter(EACH)

    def test_examples(self):
        self.assertEqual(
            [len(EACH), EACH.uses, WORK.signals, WORK.words, FIND["main"].labels, str(EACH)],
            [4, ("each",), ("need",), ("use",), ("out",), "procedure each, 1 parameters, 4 terms"],
        )
        self.assertEqual(
            [
                is_term(("exit", "out"), ()),
                is_term(("scope", "out", ("call", "p", ("exit", "out"))), ()),
                is_term(("run", "x"), ("x",)),
                is_term(("answer", (), ("seq",)), ()),
            ],
            [False, True, True, False],
        )
        self.assertEqual([len(CHANCE["main"]), GIVE["main"].signals, GIVE["main"].uses], [7, ("need",), ("work",)])


if __name__ == "__main__":
    unittest.main()
