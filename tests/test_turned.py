"""Stage 21: sides."""

import copy
import unittest

from handedworld.ask.goals import is_keep_paper, is_reach_paper, keep_paper, kept, reach_paper, reached
from handedworld.base.procedures import Procedure
from handedworld.base.programs import Program
from handedworld.errors import InvalidMeaning, InvalidOperation, InvalidProgram
from handedworld.maps.spaces import Space
from handedworld.reckon.books import keep_book
from handedworld.reckon.terms import needed
from handedworld.sides.turned import is_sure_footed, other_paper, other_side, put_together
from samples import CHANCE, FIND, FLIP, GIVE, Maker, TICK, crowd, program_or_none, refused, wrong_values
from tellings import SPACES, changed_paper, free_signals, shows

NOTHING = ("seq",)
UP = ("do", "up", (1, 1))
DOWN = ("do", "down", (0, 0))
RUN_X = ("run", "x")
MAIN = ("main", (), ())
KINDS = {"climb": "fall", "fall": "climb", "closed": "supported", "supported": "closed"}
# WORK has a deed that cannot be done in the mode 0.
STEADY = GIVE.with_procedure(Procedure("work", (), ("seq", ("raise", "need"), ("or", FLIP, UP))))


def program(body, *rows, signals=(), modes=2):
    return Program(modes, signals, Procedure("main", (), body), *rows)


def turned_again(term):
    """The term with the words of choices exchanged, wherever they stand."""
    if type(term) is not tuple:
        return term
    if term[:1] in (("or",), ("and",)) and len(term) > 1 and type(term[1]) is tuple:
        return ({"or": "and", "and": "or"}[term[0]],) + tuple(turned_again(part) for part in term[1:])
    return tuple(turned_again(part) for part in term)


def sure_again(one):
    return "None" not in repr([row.body for row in one.procedures]) and free_signals(one, "main") == ()


class Sides(unittest.TestCase):
    def test_examples(self):
        self.assertEqual(
            [reached(other_side(CHANCE), ("end", 2)), kept(CHANCE, ("end", 1)), is_sure_footed(CHANCE), is_sure_footed(GIVE),
             other_side(other_side(CHANCE)) == CHANCE],
            [0, 3, True, False, True],
        )

    def test_words_everywhere(self):
        body = ("answer", (("s", ("or", UP, ("and", DOWN))),), ("scope", "l", ("case", ("call", "p", ("and", UP, ("exit", "l"))), ("or", ("raise", "s")))))
        one = program(body, Procedure("p", ("x",), ("seq", ("or", RUN_X, NOTHING))), signals=("s",))
        two = other_side(one)
        self.assertEqual(
            two["main"].body,
            ("answer", (("s", ("and", UP, ("or", DOWN))),), ("scope", "l", ("case", ("call", "p", ("or", UP, ("exit", "l"))), ("and", ("raise", "s"))))),
        )
        self.assertEqual(two["p"].body, ("seq", ("and", RUN_X, NOTHING)))
        self.assertEqual((two.modes, two.signals, [row.named for row in two.procedures]), (2, ("s",), ["main", "p"]))

    def test_words_of_other_kinds(self):
        """Names, labels, words and parameters that are called like the words of choices."""
        body = ("scope", "or", ("answer", (("and", ("do", "or", (0, 1))),), ("call", "or", ("seq", ("exit", "or")))))
        one = Program(2, ("and",), Procedure("main", (), body), Procedure("or", ("and",), ("run", "and")))
        self.assertEqual(other_side(one), one)

    def test_drawn_programs(self):
        maker = Maker(211)
        sides = set()
        for turn in range(150):
            one = maker.program(depth=5, loops=True, sure=turn % 2 == 0, bans=((), ("or",), ("and",))[turn % 3])
            before = copy.deepcopy(one)
            two = other_side(one)
            self.assertEqual(two, Program(one.modes, one.signals, *[Procedure(row.named, row.parameters, turned_again(row.body)) for row in one.procedures]))
            self.assertEqual(other_side(two), one)
            self.assertEqual(two.sides, tuple(sorted({"or": "and", "and": "or"}[side] for side in one.sides)))
            self.assertIs(is_sure_footed(one), sure_again(one))
            self.assertIs(is_sure_footed(two), sure_again(one))
            self.assertEqual(one, before)
            sides.add(one.sides)
        self.assertEqual(len(sides), 4)

    def test_sure_footed(self):
        for one, expected in (
            (TICK, True), (FIND, True), (STEADY, True), (GIVE, False), (crowd("or"), True), (program(("raise", "s"), signals=("s",)), False),
            (program(("answer", (("s", NOTHING),), ("raise", "s")), signals=("s",)), True),
            (program(NOTHING, Procedure("p", (), ("raise", "s")), signals=("s",)), True),
            (program(NOTHING, Procedure("p", (), ("do", "go", (None, 1)))), False),
            (program(("answer", (("s", ("do", "go", (0, None))),), NOTHING), signals=("s",)), False), (program(NOTHING, signals=("s",)), True),
        ):
            self.assertIs(is_sure_footed(one), expected)

    def test_modes_of_both(self):
        """[21.2]"""
        maker = Maker(212)
        seen = set()
        for turn in range(150):
            one = maker.program(depth=4, loops=turn % 3 > 0, sure=True, modes=(1, 2, 2, 3)[turn % 4])
            full = 2**one.modes - 1
            if is_sure_footed(one):
                for good in range(full + 1):
                    keeps = kept(one, ("end", good))
                    self.assertEqual(keeps, full - reached(other_side(one), ("end", full - good)))
                    self.assertEqual(reached(one, ("end", good)), full - kept(other_side(one), ("end", full - good)))
                    seen.add((one.sides, 0 < keeps < full))
        self.assertGreater(len(seen), 5)

    def test_wrong_arguments(self):
        for value in wrong_values():
            if type(value) is not Program:
                for call in (other_side, is_sure_footed, lambda one: other_paper(one, None), lambda one: put_together(one, None)):
                    refused(self, InvalidProgram, lambda: call(value))
                refused(self, InvalidProgram, lambda: put_together(GIVE, value))
                refused(self, InvalidProgram, lambda: put_together(value, GIVE))


def opposite(one):
    return SPACES[{2: 1, 4: 2, 8: 3}[len(one)]].opposite(one)


def turned_context(context):
    return (context[0], tuple(opposite(one) for one in context[1]), tuple(opposite(one) for one in context[2]))


def turned_book(book):
    return {turned_context(context): opposite(book[context]) for context in book}


def filled(one, book):
    """The book with all contexts that are needed, with all modes, by putting them in again and again."""
    every = 2**one.modes - 1
    while True:
        more = {other for context in book for other in needed(one, context, ("end", 0), book, rest=every)} - set(book)
        if not more:
            return book
        book = {**book, **{context: (every,) * 2**one.modes for context in more}}


def all_papers(one, mode, good):
    return reach_paper(one, mode, ("end", good)), keep_paper(one, mode, ("end", good))


class Papers(unittest.TestCase):
    def accepted(self, one, mode, good, paper):
        judge = is_reach_paper if paper[0] in ("climb", "closed") else is_keep_paper
        return judge(one, mode, ("end", good), paper)

    def test_all_kinds(self):
        maker = Maker(213)
        seen = {}
        for turn in range(200):
            one = maker.program(depth=4, loops=turn % 3 > 0, sure=True, modes=(1, 2, 2, 3)[turn % 4])
            if not is_sure_footed(one):
                continue
            two, full = other_side(one), 2**one.modes - 1
            good, mode = maker.dice.randrange(full + 1), maker.dice.randrange(one.modes)
            for paper in all_papers(one, mode, good):
                held = copy.deepcopy(paper)
                found = other_paper(one, paper)
                self.assertEqual((type(found), len(found), found[0]), (tuple, 2, KINDS[paper[0]]))
                self.assertIs(self.accepted(two, mode, full - good, found), True)
                self.assertIs(self.accepted(one, mode, good, other_paper(two, found)), True)
                if type(paper[1]) is tuple:
                    self.assertEqual(found[1], tuple(turned_book(book) for book in paper[1]))
                    self.assertEqual(other_paper(two, found), paper)
                elif paper[0] == "closed":
                    self.assertEqual(found[1], turned_book(paper[1]))
                    self.assertEqual(other_paper(two, found), paper)
                else:
                    self.assertEqual(found[1], filled(two, turned_book(paper[1])))
                for book in (found[1],) if type(found[1]) is dict else found[1]:
                    self.assertEqual(list(book), sorted(book))
                self.assertEqual(paper, held)
                seen[paper[0]] = seen.get(paper[0], 0) + 1
        self.assertEqual(len(seen), 4)
        self.assertGreater(min(seen.values()), 20)

    def test_supported_books_that_need_more(self):
        """What is left out counts as a map without modes; in the closed book it has all modes."""
        maker = Maker(214)
        more = 0
        for turn in range(200):
            one = maker.program(depth=4, loops=True, sure=True, modes=(1, 2, 2)[turn % 3])
            if not is_sure_footed(one):
                continue
            two, full = other_side(one), 2**one.modes - 1
            good = maker.dice.randrange(full + 1)
            for mode in range(one.modes):
                paper = keep_paper(one, mode, ("end", good))
                if paper[0] != "supported":
                    continue
                for context in paper[1]:
                    less = {other: row for other, row in paper[1].items() if other != context}
                    if shows("supported", one, mode, ("end", good), less):
                        kind, book = other_paper(one, ("supported", less))
                        self.assertEqual((kind, book), ("closed", filled(two, turned_book(less))))
                        self.assertTrue(shows("closed", two, mode, ("end", full - good), book))
                        more += len(book) > len(less)
        self.assertGreater(more, 10)

    def test_a_supported_book_by_hand(self):
        walk = Procedure("walk", ("x",), ("or", ("seq", RUN_X, ("call", "walk", ("seq", RUN_X, FLIP))), NOTHING))
        one = program(("or", NOTHING, ("call", "walk", UP)), walk)
        self.assertTrue(is_keep_paper(one, 0, ("end", 1), ("supported", {MAIN: (0, 1, 0, 0)})))
        kind, book = other_paper(one, ("supported", {MAIN: (0, 1, 0, 0)}))
        always = (3, 3, 3, 3)
        ups, downs = ("walk", ((0, 0, 3, 3),), ()), ("walk", ((0, 3, 0, 3),), ())
        self.assertEqual((kind, book), ("closed", {MAIN: (3, 3, 2, 3), ups: always, downs: always}))
        self.assertTrue(is_reach_paper(other_side(one), 0, ("end", 2), (kind, book)))

    def test_papers_that_show_nothing(self):
        """The form alone is looked at."""
        for kind, value, expected in (
            ("closed", {}, {}), ("supported", {}, {}), ("climb", ({},), ({},)), ("fall", ({}, {}), ({}, {})),
            ("closed", {MAIN: (0, 0, 0, 0)}, {MAIN: (3, 3, 3, 3)}), ("climb", ({MAIN: (1, 0, 2, 3)},), ({MAIN: (0, 1, 3, 2)},)),
        ):
            self.assertEqual(other_paper(CHANCE, (kind, value)), (KINDS[kind], expected))
        self.assertEqual(other_paper(TICK, ("supported", {MAIN: (0, 0)})), ("closed", {MAIN: (1, 1)}))

    def test_drawn_books(self):
        """Books with any maps, right or not."""
        maker = Maker(215)
        for turn in range(60):
            one = maker.program(depth=3, loops=True, sure=True, modes=(1, 2)[turn % 2])
            if is_sure_footed(one):
                for paper in all_papers(one, 0, 1):
                    other = changed_paper(one, paper[1], maker.dice)
                    kind, found = other_paper(one, (paper[0], other))
                    if type(other) is tuple:
                        self.assertEqual(found, tuple(turned_book(book) for book in other))
                    elif kind == "supported":
                        self.assertEqual(found, turned_book(other))
                    else:
                        self.assertEqual(found, filled(other_side(one), turned_book(other)))

    def test_answers_in_contexts(self):
        """Maps of answers are turned, too."""
        for mode in (0, 1):
            for good in range(4):
                for paper in all_papers(STEADY, mode, good):
                    self.assertTrue(self.accepted(other_side(STEADY), mode, 3 - good, other_paper(STEADY, paper)))
        book = keep_book(STEADY, ("end", 3))
        self.assertIn(("work", (), ((0, 0, 3, 3),)), book)
        turned = other_paper(STEADY, ("supported", {("work", (), ((0, 0, 0, 3),)): (0, 0, 0, 3)}))
        self.assertEqual(turned, ("closed", {("work", (), ((0, 3, 3, 3),)): (0, 3, 3, 3)}))

    def test_wrong_arguments(self):
        book = {MAIN: (0, 1, 2, 3)}
        for value in wrong_values():
            if type(value) is not Program:
                refused(self, InvalidProgram, lambda: other_paper(value, None))
            if not (type(value) is tuple and value == ("closed", {})):
                refused(self, InvalidMeaning, lambda: other_paper(CHANCE, value))
            refused(self, InvalidOperation, lambda: other_paper(GIVE, value))
            if type(value) is not dict or len(value) > 0:
                for kind in KINDS:
                    refused(self, InvalidMeaning, lambda: other_paper(CHANCE, (kind, value)))
                    refused(self, InvalidMeaning, lambda: other_paper(CHANCE, (kind, (value,))))
                    if not Space(2).is_map(value):
                        refused(self, InvalidMeaning, lambda: other_paper(CHANCE, (kind, {MAIN: value})))
            refused(self, InvalidMeaning, lambda: other_paper(CHANCE, (value, book)))
            refused(self, InvalidMeaning, lambda: other_paper(CHANCE, (value, (book,))))
        for paper in (
            ("closed", (book,)), ("supported", (book,)), ("climb", book), ("fall", book), ("climb", ()), ("fall", ()), ("climb", [book]), ["closed", book],
            ("closed", book, book), ("closed",), ("met", 0, (book,)), ("unmet", book), ("Closed", book), ("closed", {MAIN: (0, 1, 2)}),
            ("closed", {("none", (), ()): (0, 1, 2, 3)}), ("closed", {("main", (), ((0, 1, 2, 3),)): (0, 1, 2, 3)}), ("closed", {MAIN: (0, 1, 2, 4)}),
            ("closed", {MAIN: [0, 1, 2, 3]}), ("closed", {MAIN: (0, 1, 2, True)}), ("fall", (book, None)), ("climb", (book, [book])),
        ):
            refused(self, InvalidMeaning, lambda: other_paper(CHANCE, paper))
        refused(self, InvalidOperation, lambda: other_paper(GIVE, None))


class Together(unittest.TestCase):
    def test_common_and_other_procedures(self):
        rows = Procedure("p", ("x",), RUN_X), Procedure("q", (), UP), Procedure("p", ("y",), NOTHING), Procedure("a", (), ("call", "p", DOWN))
        one, two = program(("call", "q"), *rows[:2]), program(NOTHING, *rows[2:])
        both = put_together(one, two)
        self.assertEqual(both.procedures, one.procedures + (rows[3],))
        self.assertEqual(put_together(two, one).procedures, two.procedures + (rows[1],))
        self.assertEqual(put_together(one, one), one)

    def test_signals_of_both(self):
        one, two = program(NOTHING, signals=("b",)), program(NOTHING, Procedure("p", (), ("raise", "a")), signals=("a",))
        self.assertEqual(put_together(one, two).signals, ("a", "b"))
        self.assertEqual(put_together(two, one).signals, ("a", "b"))
        self.assertEqual(put_together(one, one).signals, ("b",))
        self.assertEqual(put_together(program(NOTHING), program(NOTHING)).signals, ())
        self.assertEqual(put_together(program(NOTHING, signals=("a", "b")), two).signals, ("a", "b"))

    def test_what_is_no_program(self):
        one = program(NOTHING, signals=("a", "b"))
        refused(self, InvalidOperation, lambda: put_together(one, program(NOTHING, signals=("c",))))
        refused(self, InvalidOperation, lambda: put_together(one, TICK))
        refused(self, InvalidOperation, lambda: put_together(CHANCE, crowd("or")))
        few = program(NOTHING, *[Procedure(name, (), NOTHING) for name in "abcdef"])
        fits, more = [program(NOTHING, *[Procedure(name, (), NOTHING) for name in names]) for names in ("abcxyz", "abwxyz")]
        self.assertEqual(len(put_together(few, fits)), 10)
        refused(self, InvalidOperation, lambda: put_together(few, more))
        # A procedure of the second one calls with other parameters than the first one's has.
        call = program(NOTHING, Procedure("p", ("x",), RUN_X), Procedure("r", (), ("call", "p", UP)))
        refused(self, InvalidOperation, lambda: put_together(program(NOTHING, Procedure("p", (), UP)), call))
        refused(self, InvalidProgram, lambda: put_together(None, None))

    def test_drawn_programs(self):
        maker = Maker(216)
        seen = set()
        for turn in range(150):
            one, two = [maker.program(depth=3, loops=True, modes=maker.dice.choice((1, 2))) for _ in range(2)]
            signals = tuple(sorted(set(one.signals + two.signals)))
            rows = one.procedures + tuple(row for row in two.procedures if row.named not in one.names)
            expected = program_or_none(one.modes, signals, *rows) if one.modes == two.modes else None
            if expected is None:
                refused(self, InvalidOperation, lambda: put_together(one, two))
            else:
                self.assertEqual(put_together(one, two), expected)
            seen.add((one.modes == two.modes, expected is None))
        self.assertEqual(len(seen), 2)

    def test_one_sided(self):
        """Programs with one of both words alone, put together with their other sides' procedures."""
        mine = program(("call", "p", UP), Procedure("p", ("x",), ("or", RUN_X, NOTHING)))
        theirs = program(NOTHING, Procedure("q", ("x",), ("and", RUN_X, NOTHING)))
        self.assertEqual((mine.sides, theirs.sides, put_together(mine, theirs).sides), (("or",), ("and",), ("and", "or")))


if __name__ == "__main__":
    unittest.main()
