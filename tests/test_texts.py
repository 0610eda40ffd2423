"""Stage 22: texts."""

import copy
import re
import unittest

from handedworld.base.procedures import Procedure
from handedworld.base.programs import Program
from handedworld.errors import InvalidProgram, ParseError
from handedworld.text.texts import read_program, write_program
from samples import CHANCE, FIND, FLIP, GIVE, Maker, TICK, crowd, refused, wrong_values

NOTHING = ("seq",)
FORTY = "1" + "0" * 39

# -- the forms of [22.2] told once more: innermost brackets become a T, again and again --

WORD, ENTRY = "[a-z]+", "(?:-|0|[1-9][0-9]{0,39})"
SHORT = f"do {WORD}(?: {ENTRY})+|run {WORD}|exit {WORD}|raise {WORD}"
LONG = f"(?:seq|or|and|case)(?: T)*|call {WORD}(?: T)*|scope {WORD} T|answer(?: {WORD} T)* T"


def is_term_text(text):
    if re.search("[^a-z0-9() -]", text):
        return False
    deep = most = 0
    for sign in text:
        deep += {"(": 1, ")": -1}.get(sign, 0)
        most = max(most, deep)
    while True:
        shorter = re.sub(rf"\((?:{SHORT}|{LONG})\)", "T", text)
        if shorter == text:
            return most <= 12 and re.fullmatch(f"T|{SHORT}", text) is not None
        text = shorter


def first_wrong_line(text):
    """The index of the first line that has not its form, or None."""
    for at, line in enumerate(text.split("\n")):
        if at == 0:
            right = re.fullmatch(f"program (0|[1-9][0-9]{{0,39}})(?: {WORD})*", line) is not None
        else:
            found = re.fullmatch(f"proc {WORD}(?: {WORD})* : (.*)", line)
            right = found is not None and is_term_text(found[1])
        if not right:
            return at
    return None


def text_again(one):
    """The text of a program, out of the text that Python shows for its bodies."""
    def flat(term):
        word = term[0]
        if word == "do":
            return " ".join([word, term[1]] + ["-" if entry is None else repr(entry) for entry in term[2]])
        if word == "answer":
            return " ".join([word] + [f"{signal} ({flat(part)})" for signal, part in term[1]] + [f"({flat(term[2])})"])
        return " ".join([word] + [part if type(part) is str else f"({flat(part)})" for part in term[1:]])

    lines = [" ".join(["program", str(one.modes), *one.signals])]
    for row in one.procedures:
        text = flat(row.body)
        text = text if row.body[0] in ("do", "run", "exit", "raise") else f"({text})"
        lines.append(" ".join(["proc", row.named, *row.parameters]) + " : " + text)
    return "\n".join(lines)


class Written(unittest.TestCase):
    def test_examples(self):
        self.assertEqual(
            write_program(FIND).split("\n"),
            ["program 2", "proc main : (scope out (call each (seq (do look 1 1) (exit out))))", "proc each x : (seq (run x) (call each (run x)))"],
        )
        self.assertEqual(
            [write_program(GIVE).split("\n"), read_program("program 2\nproc main : (case (do up 1 1) (seq))")["main"].body],
            [["program 2 need", "proc main : (answer need (do give 1 1) (call work))", "proc work : (seq (raise need) (do use - 1))"],
             ("case", ("do", "up", (1, 1)), ("seq",))],
        )

    def test_terms_of_all_words(self):
        up, run = ("do", "up", (1, None, 0)), ("run", "x")
        body = ("answer", (("s", ("case", NOTHING, up, ("raise", "t"))), ("t", ("and", NOTHING))), ("scope", "l", ("call", "p", ("exit", "l"), ("or", up, NOTHING))))
        rows = Procedure("p", ("x", "y"), run), Procedure("q", (), up), Procedure("r", (), ("raise", "s")), Procedure("e", (), NOTHING), Procedure("c", (), ("call", "q"))
        one = Program(3, ("s", "t"), Procedure("main", (), body), *rows)
        text = write_program(one)
        self.assertEqual(text.split("\n"), [
            "program 3 s t",
            "proc main : (answer s (case (seq) (do up 1 - 0) (raise t)) t (and (seq)) (scope l (call p (exit l) (or (do up 1 - 0) (seq)))))",
            "proc p x y : run x", "proc q : do up 1 - 0", "proc r : raise s", "proc e : (seq)", "proc c : (call q)",
        ])
        self.assertEqual(read_program(text), one)

    def test_names_like_words(self):
        rows = Procedure("seq", ("do", "proc"), ("call", "main")), Procedure("proc", (), ("scope", "scope", ("seq", ("do", "do", (0,)), ("exit", "scope"))))
        one = Program(1, ("raise",), Procedure("main", (), ("answer", (("raise", ("raise", "raise")),), ("call", "seq", NOTHING, NOTHING))), *rows)
        self.assertEqual(write_program(one).split("\n")[2:], ["proc seq do proc : (call main)", "proc proc : (scope scope (seq (do do 0) (exit scope)))"])
        self.assertEqual(read_program(write_program(one)), one)

    def test_there_and_back(self):
        maker = Maker(221)
        for turn in range(200):
            one = maker.program(depth=maker.dice.randint(1, 6), loops=True)
            before = copy.deepcopy(one)
            text = write_program(one)
            self.assertEqual(text, text_again(one))
            self.assertEqual(read_program(text), one)
            self.assertIsNone(first_wrong_line(text))
            self.assertEqual(one, before)
        for one in (CHANCE, FIND, GIVE, TICK, crowd("and"), TICK.with_signals(("a", "b"))):
            self.assertEqual(read_program(write_program(one)), one)

    def test_wrong_programs(self):
        for value in wrong_values():
            if type(value) is not Program:
                refused(self, InvalidProgram, lambda: write_program(value))
            if type(value) is not str:
                refused(self, InvalidProgram, lambda: read_program(value))


class Forms(unittest.TestCase):
    """Each line is wrong by its form, or right by its form and no program, or that of a program."""

    def breaks(self, text, line):
        self.assertEqual(first_wrong_line(text), line, text)
        refused(self, ParseError, lambda: read_program(text), keeps=("line", line))

    def is_none(self, text):
        self.assertIsNone(first_wrong_line(text), text)
        refused(self, InvalidProgram, lambda: read_program(text))

    def fits(self, text):
        self.assertIsNone(first_wrong_line(text), text)
        self.assertEqual(write_program(read_program(text)), text)

    def body(self, text, modes="2"):
        """The text of a program with this body, behind another procedure."""
        return f"program {modes} s\nproc p x : (seq)\nproc main : {text}"

    def test_first_lines(self):
        rest = "\nproc main : (seq)"
        for line in ("program 1", "program 2 a", "program 3 a b", "program 2 abcdefgh", "program 1 proc program"):
            self.fits(line + rest)
        for line in ("program 0", "program 4", "program 10", "program 2 b a", "program 2 a a", "program 2 a b c", "program 2 abcdefghi", f"program {FORTY}"):
            self.is_none(line + rest)
        for line in (
            "", " ", "program", "program ", "program  2", " program 2", "program 2 ", "program 2  a", "program 01", "program 00", "program +1", "program -1",
            "program -", "program two", "program a", "program 2 A", "program 2 a1", "program 2 1", "program 2 a,", "program 2,", "Program 2", "programs 2", "2",
            f"program {FORTY}0", "program 1_0", "program 2 : a", "program 2 (a)", "proc main : (seq)", "program2", "program\t2", "program 2 -", "program 2.0",
        ):
            self.breaks(line + rest, 0)
            self.breaks(line, 0)

    def test_lines_too_few_or_too_many(self):
        self.is_none("program 2")
        self.is_none("program 2\nproc p : (seq)")
        self.is_none("program 2\nproc main : (seq)\nproc main : (seq)")
        self.is_none("program 2" + "".join(f"\nproc {name} : (seq)" for name in ["main"] + list("abcdefghij")))
        self.fits("program 2" + "".join(f"\nproc {name} : (seq)" for name in ["main"] + list("abcdefghi")))
        for text, line in (
            ("", 0), ("\n", 0), ("\nprogram 2\nproc main : (seq)", 0), ("program 2\n", 1), ("program 2\n\nproc main : (seq)", 1),
            ("program 2\nproc main : (seq)\n", 2), ("program 2\nproc main : (seq)\n\n", 2), ("program 2\nproc main : (seq)\nproc", 2),
            ("program 2\nproc main : (seq)\n ", 2), ("program 2\nprogram 2\nproc main : (seq)", 1), ("program 2 proc main : (seq)", 0),
        ):
            self.breaks(text, line)

    def test_fronts_of_procedures(self):
        for front in ("proc p", "proc p x", "proc p x y z", "proc abcdefgh abcdefgh", "proc proc seq"):
            self.fits(f"program 2\nproc main : (seq)\n{front} : (seq)")
        for front in ("proc p x x", "proc p a b c d", "proc abcdefghi", "proc p abcdefghi", "proc main x", "proc main"):
            self.is_none(f"program 2\nproc main : (seq)\n{front} : (seq)")
        for line in (
            "proc : (seq)", "proc  p : (seq)", "proc p  : (seq)", "proc p :  (seq)", "proc p: (seq)", "proc p :(seq)", "proc p : ", "proc p :", "proc p",
            "proc p (seq)", " proc p : (seq)", "proc p : (seq) ", "proc P : (seq)", "proc p X : (seq)", "proc p1 : (seq)", "proc p 1 : (seq)", "pro p : (seq)",
            "proc p , : (seq)", "proc p : : (seq)", "proc p : (seq) : (seq)", "proc p - : (seq)", "proc p (x) : (seq)", " : (seq)", "proc", "p : (seq)",
        ):
            self.breaks(f"program 2\nproc main : (seq)\n{line}", 2)

    def test_short_terms(self):
        for text in ("do up 1 1", "do up - 0", "run x", "exit l", "raise s", "do do - -"):
            whole = self.body(text) if text[0] in "dr" and text != "run x" else None
            if whole is not None:
                self.fits(whole)
            self.is_none(self.body(f"({text})"))
        self.fits("program 1\nproc main : (seq)\nproc p x : run x")
        self.is_none("program 1\nproc main : (seq)\nproc p x : (run x)")
        self.is_none(self.body("exit l"))
        self.is_none(self.body("run x"))
        self.is_none(self.body("raise other"))
        for text in ("do up 1", "do up 1 1 1", "do up 1 2", "do abcdefghi 1 1", f"do up {FORTY} 1", "do up 1 - -", "do up 0 1 0 1"):
            self.is_none(self.body(text))
            self.is_none(self.body(f"(seq ({text}))"))
        for text in (
            "do", "do up", "do 1 1", "do up 01 1", "do up 1 +1", "do up 1 -1", "do up 1 --", "do up None 1", "do up 1 1 ", "do up  1 1", "do up 1 1)", "do Up 1 1",
            f"do up {FORTY}0 1", "do up 1 1 x", "do up (seq)", "do up 1 (seq)", "run", "run x y", "run 1", "run X", "run (seq)", "exit", "exit l l", "raise",
            "raise s s", "raise (seq)", "seq", "or (seq)", "call p", "scope l (seq)", "answer (seq)", "seq (seq)", "up", "-", "1", "()", "", "do up\t1 1", "do -",
        ):
            self.breaks(self.body(text), 2)
            if text and text != "()":
                self.breaks(self.body(f"(seq ({text}))") if text not in ("seq", "or (seq)", "call p", "scope l (seq)", "answer (seq)", "seq (seq)") else self.body(text), 2)

    def test_long_terms(self):
        for text in (
            "(seq)", "(seq (seq) (seq))", "(or (seq))", "(and (seq) (seq) (seq))", "(case (seq) (seq))", "(call main)", "(call p (seq))", "(scope l (exit l))",
            "(answer s (seq) (seq))", "(answer s (answer s (seq) (seq)) (raise s))", "(seq (do up 1 -))", "(seq (raise s))",
        ):
            self.fits(self.body(text))
        for text in (
            "(or)", "(and)", "(case)", "(case (seq))", "(case (seq) (seq) (seq))", "(call p)", "(call p (seq) (seq))", "(call none)", "(call abcdefghi)",
            "(scope abcdefghi (seq))", "(seq (exit l))", "(answer (seq))", "(answer t (seq) (seq))", "(answer s (seq) s (seq) (seq))", "(seq (run x))",
            "(scope l (scope l (seq)))", "(answer t (seq) s (seq) (seq))", "(seq (or))",
        ):
            self.is_none(self.body(text))
        for text in (
            "(seq", "seq)", "(seq))", "((seq))", "(seq) (seq)", "(seq)(seq)", "( seq)", "(seq )", "(seq(seq))", "(seq  (seq))", "(seq (seq)(seq))", "(seq seq)",
            "(seq x)", "(seq 1)", "(seq -)", "(Seq)", "(seqs)", "()", "(seq ())", "(seq ((seq)))", "(call)", "(call 1)", "(call (seq))", "(call p seq)", "(call p q)",
            "(scope l)", "(scope (seq))", "(scope l (seq) (seq))", "(scope l seq)", "(answer)", "(answer s)", "(answer s (seq))", "(answer s s (seq))",
            "(answer (seq) (seq))", "(answer s (seq) t)", "(answer s (seq) (seq) (seq))", "(answer 1 (seq) (seq))", "(or (seq) or)", "(do)", "(exit)", "(xyz (seq))",
            "(seq (seq)", "(seq (seq)))", "[seq]", "(seq, (seq))", "(seq (seq) )", "(seq ( seq))", "(case (seq) (seq)) ", " (seq)", "(", ")", "(()", "(seq (seq) ) )",
        ):
            self.breaks(self.body(text), 2)

    def test_brackets(self):
        """Twelve deep and thirteen deep; a program's body is at most six deep."""
        for deep in range(1, 16):
            for inner, more in (("(seq)", 1), ("(do up 1 1)", 1)):
                text = self.body("(seq " * deep + inner + ")" * deep)
                if deep + more <= 6:
                    self.fits(text)
                elif deep + more <= 12:
                    self.is_none(text)
                else:
                    self.breaks(text, 2)
        # However they are nested.
        for begin, end in (("(scope l ", ")"), ("(answer s (seq) ", ")"), ("(answer s ", " (seq))"), ("(call p ", ")"), ("(or (seq) ", " (seq))")):
            for deep in (11, 12):
                check = self.is_none if deep == 11 else self.breaks
                check(self.body(begin * deep + "(seq)" + end * deep), *([] if deep == 11 else [2]))
        self.fits(self.body("(seq" + " (seq)" * 39 + ")"))
        self.is_none(self.body("(seq" + " (seq)" * 40 + ")"))
        self.is_none(self.body("(seq" + " (seq)" * 3000 + ")"))
        self.breaks(self.body("(" * 3000), 2)
        self.breaks(self.body("(seq " * 3000 + ")" * 3000), 2)

    def test_the_first_wrong_line(self):
        good, bad = "proc p : (seq)", "proc p : (seq"
        lines = ["program 2", good, good, good]
        for at in range(4):
            for later in range(at, 4):
                rows = list(lines)
                rows[at] = rows[later] = bad
                self.breaks("\n".join(rows), at)
        # Forms come ahead of what is no program, also in lines ahead.
        self.breaks("program 9\nproc p p : (or)\nproc main (seq)", 2)

    def test_changed_texts(self):
        """Signs put in, left out and exchanged in texts of programs."""
        maker = Maker(222)
        seen = {"form": 0, "none": 0, "fits": 0}
        for turn in range(1500):
            one = maker.program(depth=4, loops=True)
            text = write_program(one)
            for _ in range(maker.dice.randint(1, 2)):
                at = maker.dice.randrange(len(text) + 1)
                sign = maker.dice.choice(" ()-:01a\n" + text[:1]) if maker.dice.random() < 0.8 else maker.dice.choice((" (seq)", ")", "(or", "do", " - ", "  "))
                text = text[:at] + sign + text[at + maker.dice.choice((0, 0, 1)) :] if maker.dice.random() < 0.6 else text[:at] + text[at + 1 :]
            line = first_wrong_line(text)
            if line is not None:
                refused(self, ParseError, lambda: read_program(text), keeps=("line", line))
                seen["form"] += 1
                continue
            try:
                found = read_program(text)
            except InvalidProgram as error:
                self.assertIs(type(error), InvalidProgram)
                seen["none"] += 1
                continue
            self.assertEqual(write_program(found), text)
            seen["fits"] += 1
        self.assertGreater(min(seen.values()), 30)

    def test_words_in_other_places(self):
        """Pieces of texts in any order."""
        maker = Maker(223)
        pieces = ["(seq)", "(or (seq))", "(call p", "(scope l", "(answer s", ")", "(do up 1 1)", "up", "-", "0", "(exit l)", "run x", "do", "s", "(", "(case", "))"]
        seen = {True: 0, False: 0}
        for _ in range(4000):
            text = self.body(" ".join(maker.dice.choice(pieces) for _ in range(maker.dice.randint(1, 5))).replace(" )", ")"))
            line = first_wrong_line(text)
            if line is None:
                try:
                    self.assertEqual(write_program(read_program(text)), text)
                except InvalidProgram as error:
                    self.assertIs(type(error), InvalidProgram)
            else:
                refused(self, ParseError, lambda: read_program(text), keeps=("line", line))
            seen[line is None] += 1
        self.assertGreater(min(seen.values()), 50)

    def test_exchanged_terms(self):
        text = write_program(Program(2, (), Procedure("main", (), FLIP)))
        self.assertEqual(text, "program 2\nproc main : do flip 1 0")
        self.is_none("program 2\nproc main : (do flip 1 0)")
        self.fits("program 2\nproc main : (seq (do flip 1 0))")


if __name__ == "__main__":
    unittest.main()
