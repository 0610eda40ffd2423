"""Stage 18: places and probes."""

import copy
import unittest

from handedworld.base.procedures import Procedure
from handedworld.base.programs import Program
from handedworld.errors import InvalidOperation, InvalidProgram
from handedworld.unused.places import is_place, places, probe, term_at
from footprints import all_places, stood_at
from samples import BIG, CHANCE, FIND, GIVE, Maker, refused, wrong_values

NOTHING = ("seq",)
UP = ("do", "up", (1, 1))
DOWN = ("do", "down", (0, 0))
FLIP = ("do", "flip", (1, 0))
RUN_X = ("run", "x")


def program(body, *rows, signals=("s", "t"), modes=2):
    return Program(modes, signals, Procedure("main", (), body), *rows)


ANSWER = ("answer", (("s", UP), ("t", ("seq", DOWN, FLIP))), ("scope", "l", ("case", ("call", "p", ("or", UP), ("exit", "l")), ("raise", "s"))))
WIDE = program(ANSWER, Procedure("p", ("x", "y"), ("and", RUN_X, ("run", "y"))), Procedure("b", (), NOTHING))


def near_places(one):
    """Values of all kinds that are nearly places."""
    found = []
    for name, path in places(one):
        found += [[name, path], (name, list(path)), (name,), (name, path, path), (path, name), ((name, path),), name, path, {name: path}]
        found += [(name, path + (0,) * 9), (name, path + (None,)), (name, path + (True,)), (name, path + (-1,)), (name, path + (BIG,)), (name, (path,))]
        found += [(name, path + ("0",)), (name.upper(), path), ("none", path), (None, path), ((name,), path), (name, path[:-1] + (40,))]
        if path and path[-1] in (0, 1):
            found.append((name, path[:-1] + (bool(path[-1]),)))
    return found


class Places(unittest.TestCase):
    def test_examples(self):
        self.assertEqual(
            [places(GIVE), term_at(GIVE, ("main", (0,))), probe(GIVE, ("work", (1,)))[0], probe(GIVE, ("work", (1,)))[1]["work"].body],
            [(("main", ()), ("main", (0,)), ("main", (1,)), ("work", ()), ("work", (0,)), ("work", (1,))), ("do", "give", (1, 1)), "a",
             ("seq", ("raise", "need"), ("do", "a", (0, 1)))],
        )

    def test_terms_of_all_words(self):
        """In an answer first the terms of the pairs, then the last one."""
        expected = {
            ("b", ()): NOTHING, ("main", ()): ANSWER, ("main", (0,)): UP, ("main", (1,)): ("seq", DOWN, FLIP), ("main", (1, 0)): DOWN,
            ("main", (1, 1)): FLIP, ("main", (2,)): ANSWER[2], ("main", (2, 0)): ANSWER[2][2], ("main", (2, 0, 0)): ANSWER[2][2][1],
            ("main", (2, 0, 0, 0)): ("or", UP), ("main", (2, 0, 0, 0, 0)): UP, ("main", (2, 0, 0, 1)): ("exit", "l"),
            ("main", (2, 0, 1)): ("raise", "s"), ("p", ()): ("and", RUN_X, ("run", "y")), ("p", (0,)): RUN_X, ("p", (1,)): ("run", "y"),
        }
        self.assertEqual(places(WIDE), tuple(expected))
        for place in expected:
            self.assertIs(is_place(WIDE, place), True)
            self.assertEqual(term_at(WIDE, place), expected[place])

    def test_drawn_programs(self):
        maker = Maker(181)
        for turn in range(100):
            one = maker.program(depth=5, loops=True)
            found = places(one)
            self.assertEqual(found, tuple(sorted(all_places(one))))
            self.assertEqual(len(found), sum(len(row) for row in one.procedures))
            for place in found:
                self.assertIs(is_place(one, place), True)
                self.assertEqual(term_at(one, place), stood_at(one, place))
                name, path = place
                self.assertIs(is_place(one, (name, path + (0,))), (name, path + (0,)) in found)

    def test_many_terms(self):
        """Ascending: by numbers, not by their texts."""
        one = program(("seq",) + (NOTHING,) * 12)
        self.assertEqual(places(one), (("main", ()),) + tuple(("main", (index,)) for index in range(12)))

    def test_near_values(self):
        for one in (WIDE, GIVE, FIND, CHANCE):
            for value in near_places(one):
                self.assertIs(is_place(one, value), False, value)
                for call in (term_at, probe):
                    refused(self, InvalidOperation, lambda: call(one, value))

    def test_values_of_all_kinds(self):
        for value in wrong_values():
            expected = type(value) is tuple and value == ("main", ())
            self.assertIs(is_place(GIVE, value), expected)
            self.assertIs(is_place(GIVE, ("main", value)), type(value) is tuple and value in ((), (0,)))
            self.assertIs(is_place(GIVE, (value, ())), type(value) is str and value == "main")
            self.assertIs(is_place(GIVE, ("main", (value,))), type(value) is int and value in (0, 1))
            for call in (term_at, probe):
                if type(value) is not Program:
                    refused(self, InvalidProgram, lambda: call(value, None))
                if not expected:
                    refused(self, InvalidOperation, lambda: call(GIVE, value))
            if type(value) is not Program:
                refused(self, InvalidProgram, lambda: is_place(value, None))
                refused(self, InvalidProgram, lambda: places(value))


def changed_again(term, path, deed):
    """The term with the deed where the path leads, and "or" for each "and", told once more."""
    if path == ():
        return deed
    word, rest = term[0], list(term[1:])
    at, way = path[0] if path else None, path[1:] if path else None
    if word == "answer":
        pairs = [(signal, changed_again(part, way if at == index else None, deed)) for index, (signal, part) in enumerate(rest[0])]
        return (word, tuple(pairs), changed_again(rest[1], way if at == len(pairs) else None, deed))
    first = 1 if word in ("call", "scope") else 0
    if word in ("do", "run", "exit", "raise"):
        return term
    parts = [changed_again(part, way if at == index else None, deed) for index, part in enumerate(rest[first:])]
    return ({"and": "or"}.get(word, word),) + tuple(rest[:first] + parts)


class Probes(unittest.TestCase):
    def test_drawn_programs(self):
        maker = Maker(182)
        for turn in range(60):
            one = maker.program(depth=5, loops=True)
            before = copy.deepcopy(one)
            for place in places(one):
                word, other = probe(one, place)
                self.assertEqual(word, "a")
                deed = ("do", "a", tuple(range(one.modes)))
                self.assertEqual((other.modes, other.signals), (one.modes, one.signals))
                self.assertEqual([row.named for row in other.procedures], [row.named for row in one.procedures])
                self.assertNotIn("and", other.sides)
                for row in one.procedures:
                    path = place[1] if row.named == place[0] else None
                    self.assertEqual(other[row.named].body, changed_again(row.body, path, deed))
                    self.assertEqual(other[row.named].parameters, row.parameters)
            self.assertEqual(one, before)

    def with_words(self, words):
        """A program with deeds of all these words."""
        rows = [Procedure("main", (), NOTHING)]
        for at in range(0, len(words), 39):
            rows.append(Procedure("p" + "abcdefghij"[at // 39], (), ("seq",) + tuple(("do", word, (0,)) for word in words[at : at + 39])))
        return Program(1, (), *rows)

    def test_words(self):
        letters = list("abcdefghijklmnopqrstuvwxyz")
        pairs = [one + other for one in letters for other in letters]
        for words, expected in (
            ([], "a"), (["b"], "a"), (["a"], "b"), (["a", "c"], "b"), (["aa"], "a"), (letters[:-1], "z"), (letters, "aa"), (letters + ["ab"], "aa"),
            (letters + ["aa"], "ab"), (letters + pairs[:26], "ba"), (letters[1:] + pairs[:5], "a"), (letters + pairs[:27] + ["zz"], "bb"),
            (letters + pairs[:300], pairs[300]),
        ):
            one = self.with_words(words)
            for place in (("main", ()), places(one)[-1]):
                self.assertEqual(probe(one, place)[0], expected)

    def test_words_of_deeds_alone_count(self):
        """Names, labels, signals, parameters of one letter are no words; the deed at the place itself is one."""
        body = ("scope", "a", ("answer", (("a", ("exit", "a")),), ("call", "b", ("do", "c", (1, 0)))))
        one = Program(2, ("a",), Procedure("main", (), body), Procedure("b", ("a",), ("run", "a")))
        self.assertEqual([probe(one, place)[0] for place in places(one)], ["a"] * len(places(one)))
        lone = Program(1, (), Procedure("main", (), ("do", "a", (0,))))
        self.assertEqual(probe(lone, ("main", ())), ("b", Program(1, (), Procedure("main", (), ("do", "b", (0,))))))

    def test_modes_and_results(self):
        for modes in (1, 2, 3):
            one = Program(modes, (), Procedure("main", (), ("and", NOTHING, ("or", NOTHING))))
            found = probe(one, ("main", (0,)))
            self.assertEqual((type(found), len(found)), (tuple, 2))
            self.assertEqual(found[1]["main"].body, ("or", ("do", "a", tuple(range(modes))), ("or", NOTHING)))
            self.assertEqual(probe(one, ("main", ()))[1]["main"].body, ("do", "a", tuple(range(modes))))


if __name__ == "__main__":
    unittest.main()
