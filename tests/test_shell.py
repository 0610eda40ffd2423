"""Stage 24: a shell."""

import re
import unittest

from handedworld.ask.goals import can_keep, can_reach
from handedworld.base.procedures import Procedure
from handedworld.base.programs import Program
from handedworld.errors import (
    InvalidCommand, InvalidGoal, InvalidNumber, InvalidOperation, InvalidProgram, ParseError, TooMany, UnknownName,
)
from handedworld.same.editions import exchanged, without_term
from handedworld.same.entries import are_alike
from handedworld.signals.led import led
from handedworld.text.shell import MAX_PROGRAMS, Shell
from handedworld.text.texts import write_program
from handedworld.unused.trim import is_idle
from samples import CHANCE, FIND, GIVE, Maker, TICK, refused, swarm, wrong_values

NOTHING = ("seq",)
PAIR = Program(
    2, ("s",), Procedure("main", (), ("or", ("call", "one", NOTHING), ("do", "go", (None, 1)))), Procedure("one", ("x",), ("run", "x")),
    Procedure("two", ("x",), ("or", ("run", "x"), ("run", "x"))), Procedure("deaf", ("x",), ("raise", "s")),
)
FORTY = "1" + "0" * 39

# The forms of commands, told once more.
NAME, NUMBER = "[a-z]{1,8}", "(?:0|[1-9][0-9]{0,39})"
FORMS = [
    rf"new {NAME}\n(?s:.*)", f"copy {NAME} {NAME}", f"drop {NAME}", f"cut {NAME} {NAME} {NUMBER} {NUMBER}", f"turn {NAME} {NAME} {NAME}", f"text {NAME}",
    f"(?:reach|keep) {NAME} {NUMBER} {NUMBER}", f"(?:does|raises) {NAME} {NUMBER} {NAME}", f"(?:idle|alike) {NAME} {NAME} {NAME}", f"plain {NAME} {NAME}",
]
COMMANDS = [
    "new new\n" + write_program(TICK), "copy a new", "drop a", "cut p main 0 0", "turn p one two", "text a", "reach a 0 2", "keep a 1 3", "does a 0 use",
    "raises a 1 need", "idle p one x", "alike p one two", "plain a new",
]


def is_command(text):
    return type(text) is str and any(re.fullmatch(form, text) for form in FORMS)


def filled():
    """A shell with two programs."""
    shell = Shell()
    shell("new a\n" + write_program(GIVE))
    shell("new p\n" + write_program(PAIR))
    return shell


class Commands(unittest.TestCase):
    def test_example(self):
        shell = Shell()
        self.assertEqual(
            [shell("new a\n" + write_program(GIVE)), shell("reach a 0 2"), shell("raises a 0 need"), shell("plain a b").split("\n")[0], shell("does b 1 use")],
            ["program of 2 modes, 1 signals, 2 procedures", True, False, "program 2", True],
        )

    def test_new_copy_drop(self):
        shell = Shell()
        self.assertEqual(MAX_PROGRAMS, 8)
        for run in (shell, shell.run):
            self.assertEqual(run("new a\n" + write_program(FIND)), str(FIND))
            self.assertIsNone(run("copy a b"))
            self.assertEqual((shell.programs, shell.names), ({"a": FIND, "b": FIND}, ("a", "b")))
            self.assertIsNone(run("drop a"))
            self.assertEqual(shell.programs, {"b": FIND})
            self.assertIsNone(run("drop b"))
            self.assertEqual((shell.programs, len(shell)), ({}, 0))

    def test_copies_are_independent(self):
        shell = filled()
        shell("copy p q")
        shell("cut p main 0 0")
        self.assertEqual(shell.programs, {"a": GIVE, "p": without_term(PAIR, "main", 0, 0), "q": PAIR})

    def test_cut_turn_text_plain(self):
        shell = filled()
        self.assertEqual(shell("text p"), write_program(PAIR))
        other = without_term(PAIR, "two", 0, 1)
        self.assertEqual(shell("cut p two 0 1"), write_program(other))
        self.assertEqual(shell.programs["p"], other)
        last = exchanged(other, "one", "two")
        self.assertEqual(shell("turn p one two"), write_program(last))
        self.assertEqual(shell.programs["p"], last)
        self.assertEqual(shell("plain a b"), write_program(led(GIVE)))
        self.assertEqual((shell.programs["b"], shell.programs["a"]), (led(GIVE), GIVE))

    def test_questions(self):
        shell = filled()
        shell("new t\n" + write_program(TICK))
        shell("new c\n" + write_program(CHANCE))
        for name, one in shell.programs.items():
            for start in range(one.modes):
                for number in range(2**one.modes):
                    self.assertIs(shell(f"reach {name} {start} {number}"), can_reach(one, start, ("end", number)))
                    self.assertIs(shell(f"keep {name} {start} {number}"), can_keep(one, start, ("end", number)))
                for word in one.words + ("other",):
                    self.assertIs(shell(f"does {name} {start} {word}"), can_reach(one, start, ("deed", word)))
                for signal in one.signals:
                    self.assertIs(shell(f"raises {name} {start} {signal}"), can_reach(one, start, ("signal", signal)))
            for row in one.procedures:
                for x in row.parameters:
                    self.assertIs(shell(f"idle {name} {row.named} {x}"), is_idle(one, row.named, x))
        for names in (("one", "two"), ("two", "one"), ("one", "one"), ("main", "main")):
            self.assertIs(shell("alike p {} {}".format(*names)), are_alike(PAIR, *names))
        self.assertEqual([shell("keep t 0 0"), shell("reach t 0 0"), shell("alike p one two")], [True, False, True])
        self.assertEqual(len(shell.script), 4)


class Forms(unittest.TestCase):
    def test_each_command(self):
        for command in COMMANDS:
            self.assertTrue(is_command(command))
            filled().run(command)

    def check(self, command):
        """A value that is no command by its words is refused as such, and any other one is not."""
        shell = filled()
        before = (shell.programs, shell.script)
        try:
            shell(command)
        except InvalidCommand as error:
            self.assertIs(type(error), InvalidCommand)
            self.assertFalse(is_command(command), command)
            self.assertEqual((shell.programs, shell.script), before)
        except Exception:
            self.assertTrue(is_command(command), command)
            self.assertEqual((shell.programs, shell.script), before)
        else:
            self.assertTrue(is_command(command), command)

    def test_changed_commands(self):
        """One word left out, doubled, of another kind, with other blanks or lines."""
        others = (
            "", "a", "abcdefgh", "abcdefghi", "A", "a1", "0", "1", "00", "01", "10", FORTY, FORTY + "0", "-1", "+1", "1.0", "-", "_", "a b", "x,", "None", "~",
        )
        for command in COMMANDS:
            head, line, below = command.partition("\n")
            words = head.split(" ")
            for at in range(len(words)):
                for more in [words[:at] + words[at + 1 :], words[:at] + [words[at]] * 2 + words[at + 1 :]]:
                    self.check(" ".join(more) + line + below)
                for other in others:
                    self.check(" ".join(words[:at] + [other] + words[at + 1 :]) + line + below)
                for blank in ("  ", "\n", "\n ", " \n", "", ", "):
                    self.check(" ".join(words[:at]) + blank + " ".join(words[at:]) + line + below)
            for text in (" " + head + line + below, head + " " + line + below, head + "\n" + below, head + "\n\n" + below, head, head.upper() + line + below, "\n" + command):
                self.check(text)
            for other in COMMANDS:
                self.check(" ".join([other.split(" ")[0]] + words[1:]) + line + below)

    def test_values_of_all_kinds(self):
        for value in wrong_values():
            for shell in (Shell(), filled()):
                if value == "text a" and type(value) is str:
                    continue
                refused(self, InvalidCommand, lambda: shell.run(value))
                refused(self, InvalidCommand, lambda: shell(value))

    def test_numbers(self):
        shell = filled()
        for number in (FORTY + "0", "00", "02", "-2", "+2", " 2", "2.", "two", ""):
            refused(self, InvalidCommand, lambda: shell(f"reach a 0 {number}"))
            refused(self, InvalidCommand, lambda: shell(f"reach a {number} 2"))
            refused(self, InvalidCommand, lambda: shell(f"cut p main {number} 0"))
            refused(self, InvalidCommand, lambda: shell(f"raises a {number} need"))
        refused(self, InvalidGoal, lambda: shell(f"reach a 0 {FORTY}"))
        refused(self, InvalidNumber, lambda: shell(f"reach a {FORTY} {FORTY}"), keeps=("value", int(FORTY)))

    def test_texts_of_new(self):
        shell = Shell()
        refused(self, InvalidCommand, lambda: shell("new a"))
        refused(self, ParseError, lambda: shell("new a\n"), keeps=("line", 0))
        refused(self, ParseError, lambda: shell("new a\n\n"), keeps=("line", 0))
        refused(self, ParseError, lambda: shell("new a\n\nprogram 2\nproc main : (seq)"), keeps=("line", 0))
        refused(self, ParseError, lambda: shell("new a\nprogram 2\n"), keeps=("line", 1))
        refused(self, ParseError, lambda: shell("new a\nprogram 2\nproc main : (seq)\n"), keeps=("line", 2))
        refused(self, ParseError, lambda: shell("new a\nprogram 2\nproc main : seq"), keeps=("line", 1))
        refused(self, InvalidProgram, lambda: shell("new a\nprogram 2"))
        refused(self, InvalidProgram, lambda: shell("new a\nprogram 2\nproc main : (do up 1 1)"))
        self.assertEqual((shell.names, shell.script), ((), ()))
        self.assertEqual(shell("new a\nprogram 2\nproc main : do up 1 1"), "program of 2 modes, 0 signals, 1 procedures")


class Errors(unittest.TestCase):
    def test_the_first_name_that_is_not_there(self):
        shell = filled()
        for command in COMMANDS[1:]:
            words = command.split(" ")
            refused(self, UnknownName, lambda: shell(" ".join([words[0], "none"] + words[2:])), keeps=("name", "none"))
            refused(self, UnknownName, lambda: Shell()(command), keeps=("name", words[1]))
        # A name that has to be there comes ahead of one that is there already.
        refused(self, UnknownName, lambda: shell("copy none a"), keeps=("name", "none"))
        refused(self, UnknownName, lambda: shell("plain none a"), keeps=("name", "none"))

    def test_a_name_that_is_there(self):
        shell = filled()
        for command in ("new a\n", "new p\n" + write_program(GIVE), "copy a a", "copy a p", "plain a p", "plain a a", "plain p p"):
            refused(self, InvalidOperation, lambda: shell(command))
        self.assertEqual(shell.programs, {"a": GIVE, "p": PAIR})

    def test_what_is_called(self):
        shell = filled()
        for command, error, keeps in (
            ("cut p none 0 0", UnknownName, ("name", "none")), ("cut p main 1 0", InvalidNumber, ("value", 1)), ("cut p main 0 2", InvalidNumber, ("value", 2)),
            ("cut p none 9 9", UnknownName, ("name", "none")), ("cut a main 0 0", InvalidNumber, ("value", 0)), ("turn p one none", UnknownName, ("name", "none")),
            ("turn p none other", UnknownName, ("name", "none")), ("turn p one main", InvalidOperation, None), ("reach a 2 9", InvalidNumber, ("value", 2)),
            ("reach a 1 4", InvalidGoal, None), ("keep a 2 1", InvalidNumber, ("value", 2)), ("keep a 0 4", InvalidGoal, None), ("does a 3 use", InvalidNumber, ("value", 3)),
            ("raises a 0 other", InvalidGoal, None), ("raises a 2 other", InvalidNumber, ("value", 2)), ("idle p none x", UnknownName, ("name", "none")),
            ("idle p one y", UnknownName, ("name", "y")), ("alike p one none", UnknownName, ("name", "none")), ("alike p one main", InvalidOperation, None),
            ("alike p one deaf", InvalidOperation, None), ("alike a work work", InvalidOperation, None),
        ):
            refused(self, error, lambda: shell(command), keeps=keeps)
        shell("cut p main 0 0")
        refused(self, InvalidOperation, lambda: shell("cut p main 0 0"))
        self.assertEqual(len(shell.script), 3)

    def test_errors_of_led(self):
        shell = Shell()
        shell("new b\n" + write_program(Program(1, ("s",), Procedure("main", (), ("seq",)), Procedure("p", ("s",), ("raise", "s")))))
        refused(self, InvalidOperation, lambda: shell("plain b c"))
        many = Procedure("p", ("a", "b", "c"), ("raise", "s"))
        shell("new m\n" + write_program(Program(1, ("s",), Procedure("main", (), ("seq",)), many)))
        refused(self, TooMany, lambda: shell("plain m c"), keeps=("limit", 3))
        shell("new w\n" + write_program(swarm("or")))
        refused(self, TooMany, lambda: shell("reach w 0 1"), keeps=("limit", 800))
        refused(self, TooMany, lambda: shell("idle w p x"), keeps=("limit", 800))
        self.assertEqual(shell.names, ("b", "m", "w"))

    def test_the_ninth_program(self):
        shell = filled()
        for name in "bcdefg":
            shell(f"copy a {name}")
        self.assertEqual(len(shell), 8)
        before = (shell.programs, shell.script)
        for command in ("copy a h", "plain a h", "new h\n" + write_program(TICK)):
            refused(self, TooMany, lambda: shell(command), keeps=("limit", 8))
        # It comes last.
        refused(self, ParseError, lambda: shell("new h\n"), keeps=("line", 0))
        refused(self, InvalidProgram, lambda: shell("new h\nprogram 9"))
        refused(self, InvalidOperation, lambda: shell("copy a b"))
        refused(self, UnknownName, lambda: shell("copy h i"), keeps=("name", "h"))
        self.assertEqual((shell.programs, shell.script), before)
        shell("drop g")
        shell("cut p main 0 0")
        full = Program(1, ("s",), Procedure("main", (), ("seq",)), Procedure("p", ("s",), ("raise", "s")))
        shell("new g\n" + write_program(full))
        refused(self, InvalidOperation, lambda: shell("plain g h"))
        self.assertEqual(len(shell), 8)


class Scripts(unittest.TestCase):
    def test_script(self):
        shell = filled()
        kept = ["new a\n" + write_program(GIVE), "new p\n" + write_program(PAIR)]
        for command in COMMANDS[1:]:
            if command.split(" ")[0] in ("copy", "plain"):
                command = command.replace("new", command.split(" ")[0])
            if command == "drop a":
                continue
            shell(command)
            if command.split(" ")[0] in ("copy", "cut", "turn", "plain"):
                kept.append(command)
        shell("drop a")
        for command in ("drop a", "text a", "copy p copy", "nothing", "new q\n", "cut p two 5 5"):
            try:
                shell(command)
            except (UnknownName, InvalidOperation, InvalidCommand, ParseError, InvalidNumber):
                pass
        self.assertEqual(shell.script, tuple(kept + ["drop a"]))
        self.assertEqual(shell.names, ("copy", "p", "plain"))
        other = Shell.replayed(shell.script)
        self.assertEqual((other, other.script, other.programs), (shell, shell.script, shell.programs))

    def test_replayed(self):
        new = "new a\n" + write_program(GIVE)
        self.assertEqual(Shell.replayed(()), Shell())
        shell = Shell.replayed((new, "reach a 0 2", "text a", "copy a b", "drop a", "does b 0 use"))
        self.assertEqual((shell.script, shell.programs), ((new, "copy a b", "drop a"), {"b": GIVE}))
        self.assertIs(type(shell), Shell)
        refused(self, UnknownName, lambda: Shell.replayed((new, "text b", None)), keeps=("name", "b"))
        refused(self, InvalidCommand, lambda: Shell.replayed((new, None, "text b")))
        refused(self, InvalidGoal, lambda: Shell.replayed((new, "reach a 0 9")))
        refused(self, TooMany, lambda: Shell.replayed((new,) + tuple(f"copy a {name}" for name in "bcdefghi")), keeps=("limit", 8))
        for value in wrong_values():
            if type(value) is not tuple:
                refused(self, InvalidCommand, lambda: Shell.replayed(value))
            elif value != ():
                refused(self, InvalidCommand, lambda: Shell.replayed(value))
            refused(self, InvalidCommand, lambda: Shell.replayed([new]))

    def test_drawn_scripts(self):
        """A shell and a dict go the same ways."""
        maker = Maker(241)
        done = {}
        for turn in range(25):
            shell, model, kept = Shell(), {}, []
            for _ in range(40):
                way = maker.dice.choice(("new", "copy", "drop", "cut", "turn", "plain", "text"))
                name, other = maker.dice.choice("abcdefghij"), maker.dice.choice("abcdefghij")
                one = maker.program(depth=3, loops=True)
                rest = {"new": f"\n{write_program(one)}", "copy": f" {other}", "plain": f" {other}", "cut": " main 0 1", "turn": " one two"}.get(way, "")
                command = f"{way} {name}{rest}"
                after = dict(model)
                try:
                    if way == "new" and name in model:
                        raise InvalidOperation("there already")
                    if way != "new" and name not in model:
                        raise UnknownName(name)
                    if way in ("copy", "plain") and other in model:
                        raise InvalidOperation("there already")
                    if way == "new":
                        after[name] = one
                    elif way == "drop":
                        del after[name]
                    elif way == "copy":
                        after[other] = model[name]
                    elif way == "plain":
                        after[other] = led(model[name])
                    elif way == "cut":
                        after[name] = without_term(model[name], "main", 0, 1)
                    elif way == "turn":
                        after[name] = exchanged(model[name], "one", "two")
                    if len(after) > 8:
                        raise TooMany(8)
                except Exception as error:
                    refused(self, type(error), lambda: shell(command))
                    done[(way, type(error).__name__)] = True
                else:
                    reply = shell(command)
                    if way != "text":
                        kept.append(command)
                    if way in ("copy", "drop"):
                        self.assertIsNone(reply)
                    else:
                        self.assertEqual(reply, str(one) if way == "new" else write_program(after[other if way == "plain" else name]))
                    model = after
                    done[(way, None)] = True
                self.assertEqual((shell.programs, shell.names, shell.script), (model, tuple(sorted(model)), tuple(kept)))
                self.assertEqual(list(shell.programs), sorted(model))
            self.assertEqual(Shell.replayed(shell.script), shell)
        self.assertGreater(len(done), 15)


class Objects(unittest.TestCase):
    def test_equal_shells(self):
        one, other = filled(), filled()
        self.assertTrue(one == other and not one != other)
        one("copy a b")
        self.assertTrue(one != other and not one == other)
        other("copy p b")
        self.assertNotEqual(one, other)
        other("drop b")
        other("copy a c")
        other("copy c b")
        other("drop c")
        self.assertEqual(one, other)
        self.assertNotEqual(one.script, other.script)
        for value in wrong_values():
            self.assertIs(filled() == value, False)
            self.assertIs(Shell() == value, type(value) is Shell)
            self.assertIs(Shell() != value, type(value) is not Shell)

    def test_members_lengths_and_texts(self):
        shell = filled()
        self.assertEqual((len(shell), str(shell), "a" in shell, "b" in shell, str(Shell())), (2, "shell of 2 programs", True, False, "shell of 0 programs"))
        shell("drop a")
        self.assertEqual(str(shell), "shell of 1 programs")
        for value in wrong_values():
            self.assertIs(value in filled(), type(value) is str and value == "a")

    def test_not_iterated_over(self):
        for call in (iter, list, tuple, sorted):
            refused(self, TypeError, lambda: call(filled()))

    def test_what_is_kept_is_not_changed(self):
        shell = filled()
        shell.programs.clear()
        self.assertEqual(len(shell), 2)


if __name__ == "__main__":
    unittest.main()
