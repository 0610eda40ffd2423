"""Stage 16: blocks for all meanings."""

import unittest

from handedworld.base.procedures import Procedure, is_term
from handedworld.base.programs import Program
from handedworld.errors import InvalidMeaning, InvalidNumber, InvalidProgram
from handedworld.maps.spaces import Space
from handedworld.reckon.books import least_map
from handedworld.reckon.terms import reckoned
from handedworld.same.made import block_of, won_map
from samples import Maker, is_int, refused, wrong_values
from tellings import SPACES, members

NOTHING = ("seq",)
UP = ("do", "go", (1, 1))
FLIP = ("do", "go", (1, 0))
BAR = ("do", "go", (None, None))
WIN = ("exit", "win")


def terms_of(term):
    """The term and all terms in it, with their depths."""
    yield term, 1
    parts = term[2:] if term[0] == "scope" else term[1:] if term[0] in ("seq", "or", "and", "case") else ()
    for part in parts:
        for other, deep in terms_of(part):
            yield other, deep + 1


def won(modes, term):
    """The won map, by reckoning the scope with each set behind it, and a deed behind the term that leads nowhere or on."""
    rows = []
    for good in range(2**modes):
        # What comes to a mode of the set is marked by a deed; what wins ends in any mode.
        table = tuple(mode if mode in members(good) else None for mode in range(modes))
        body = ("scope", "win", ("seq", term, ("do", "mark", table)))
        one = Program(modes, (), Procedure("main", (), body)) if is_term(body, ()) else None
        rows.append(reckoned(one, ("main", (), ()), ("end", 0), {})[-1])
    return tuple(rows)


class Blocks(unittest.TestCase):
    def test_each_monotone_map(self):
        for modes in (1, 2):
            for wanted in Space(modes).maps:
                term = block_of(modes, wanted)
                self.assertEqual(won_map(modes, term), wanted)
                rows = list(terms_of(term))
                self.assertLessEqual(len(rows), 12)
                self.assertLessEqual(max(deep for _, deep in rows), 3)
                for row, _ in rows:
                    self.assertIn(row[0], ("do", "seq", "or", "and", "case", "exit"))
                    if row[0] == "do":
                        self.assertEqual((row[1], len(row[2])), ("go", modes))
                    if row[0] == "exit":
                        self.assertEqual(row[1], "win")
                self.assertTrue(is_term(("scope", "win", term), ()))
                self.assertEqual(won(modes, term), wanted)

    def test_as_a_block_that_is_handed(self):
        """A procedure that runs its block within the scope that wins has the map of the block, for each set behind it."""
        for wanted in Space(2).maps:
            for good in range(4):
                behind = ("do", "mark", tuple(mode if mode in members(good) else None for mode in (0, 1)))
                body = ("scope", "win", ("seq", ("call", "p", block_of(2, wanted)), behind))
                one = Program(2, (), Procedure("main", (), body), Procedure("p", ("x",), ("run", "x")))
                self.assertEqual(least_map(one, ("main", (), ()), ("end", 0))[3], wanted[good])

    def test_examples_of_maps(self):
        never, always = (0, 0, 0, 0), (3, 3, 3, 3)
        for wanted in (never, always, (0, 1, 2, 3), (0, 0, 0, 3), (0, 3, 3, 3), (1, 1, 1, 3), (0, 0, 2, 3)):
            self.assertEqual(won_map(2, block_of(2, wanted)), wanted)
        self.assertEqual(won_map(1, block_of(1, (1, 1))), (1, 1))
        self.assertEqual([won_map(1, block_of(1, one)) for one in Space(1).maps], list(Space(1).maps))

    def test_wrong_arguments(self):
        for value in wrong_values():
            if not is_int(value) or not 1 <= value <= 2:
                refused(self, InvalidNumber, lambda: block_of(value, None), keeps=("value", value))
            if value not in Space(2):
                refused(self, InvalidMeaning, lambda: block_of(2, value))
            if value not in Space(1):
                refused(self, InvalidMeaning, lambda: block_of(1, value))
        for value in ((3, 0, 0, 0), (0, 1, 2), (0, 1, 2, 4), [0, 1, 2, 3], (0, True, 2, 3), (0, 0, 0, 0, 0, 0, 0, 0)):
            refused(self, InvalidMeaning, lambda: block_of(2, value))
        refused(self, InvalidNumber, lambda: block_of(3, tuple(range(8))), keeps=("value", 3))


class Won(unittest.TestCase):
    def shows(self, term, expected, modes=2):
        self.assertEqual(won_map(modes, term), expected)

    def test_each_word(self):
        always = (3, 3, 3, 3)
        for term, expected in (
            (NOTHING, (0, 1, 2, 3)), (UP, (0, 0, 3, 3)), (BAR, (0, 0, 0, 0)), (WIN, always), (("seq", WIN, BAR), always),
            (("seq", BAR, WIN), (0, 0, 0, 0)), (("seq", ("do", "half", (None, 0)), WIN), (2, 2, 2, 2)),
            (("or", FLIP, NOTHING), (0, 3, 3, 3)), (("and", FLIP, NOTHING), (0, 0, 0, 3)), (("or", WIN, BAR), always),
            (("and", WIN, UP), (0, 0, 3, 3)), (("case", WIN, FLIP), (1, 3, 1, 3)), (("case", FLIP, WIN), (2, 2, 3, 3)),
            (("scope", "l", ("seq", UP, ("exit", "l"), BAR)), (0, 0, 3, 3)),
            (("scope", "l", ("seq", ("scope", "m", ("or", ("exit", "l"), ("exit", "m"), WIN)), BAR)), always),
            (("scope", "l", ("or", ("exit", "l"), ("seq", FLIP, WIN))), always),
        ):
            self.shows(term, expected)

    def test_modes(self):
        self.shows(("do", "a", (0,)), (0, 1), 1)
        self.shows(("seq", ("exit", "win"), ("do", "go", (None,))), (1, 1), 1)
        self.shows(("do", "a", (1, 2, None)), (0, 0, 1, 1, 2, 2, 3, 3), 3)
        self.shows(("case", WIN, ("do", "a", (0, 0, 0)), ("do", "a", (2, 2, 2))), (1, 3, 1, 3, 5, 7, 5, 7), 3)
        self.shows(WIN, (7,) * 8, 3)

    def test_against_reckoning(self):
        maker = Maker(171)
        tried = 0
        while tried < 200:
            modes = maker.dice.randint(1, 3)
            maker.labels = 0
            world = {"modes": modes, "signals": (), "sure": False, "labels": ("win",), "bans": (), "blocks": (), "calls": ()}
            term = maker.term(4, world)
            if is_term(("scope", "win", ("seq", term, BAR)), ()):
                tried += 1
                found = won_map(modes, term)
                self.assertEqual(found, won(modes, term))
                self.assertIn(found, SPACES[modes])

    def test_terms_that_are_none_such(self):
        deep = ("seq", ("seq", ("seq", ("seq", NOTHING))))
        self.shows(deep, (0, 1, 2, 3))
        self.shows(("seq",) + (NOTHING,) * 38, (0, 1, 2, 3))
        for term in (
            ("run", "x"), ("call", "main"), ("call", "p"), ("raise", "s"), ("answer", (("s", NOTHING),), NOTHING), ("exit", "out"),
            ("seq", ("call", "main")), ("scope", "win", NOTHING), ("scope", "l", ("scope", "win", WIN)), ("scope", "l", ("scope", "l", NOTHING)),
            ("seq", deep), ("seq",) + (NOTHING,) * 39, ("do", "go", (1,)), ("do", "go", (1, 2)), ("do", "go", (1, 0, 1)), ("case", NOTHING),
            ("case", NOTHING, NOTHING, NOTHING), ("do", "Go", (1, 0)), ("or",), ["seq"], ("seq", ["seq"]), ("do", "go", (True, 0)),
            ("or", UP, ("case", UP)), ("or", WIN, ("run", "win")), ("do", "go", [1, 0]), ("exit", "win", "win"),
        ):
            refused(self, InvalidProgram, lambda: won_map(2, term))

    def test_wrong_arguments(self):
        for value in wrong_values():
            if not is_int(value) or not 1 <= value <= 3:
                refused(self, InvalidNumber, lambda: won_map(value, None), keeps=("value", value))
            for modes in (1, 2, 3):
                if type(value) is not tuple or value not in (("seq",), ("seq", ("seq",))):
                    refused(self, InvalidProgram, lambda: won_map(modes, value))
        refused(self, InvalidNumber, lambda: won_map(4, NOTHING), keeps=("value", 4))

    def test_examples(self):
        self.assertEqual(
            [won_map(2, ("do", "go", (1, 0))), won_map(2, ("exit", "win")),
             won_map(2, ("and", ("do", "go", (0, 0)), ("do", "go", (1, 1)))), won_map(2, block_of(2, (0, 2, 1, 3)))],
            [(0, 2, 1, 3), (3, 3, 3, 3), (0, 0, 0, 3), (0, 2, 1, 3)],
        )
        self.assertEqual(
            [won_map(1, ("seq", ("exit", "win"), ("do", "go", (None,)))),
             won_map(2, ("case", ("exit", "win"), ("do", "go", (0, 0))))],
            [(1, 1), (1, 3, 1, 3)],
        )


if __name__ == "__main__":
    unittest.main()
