"""Texts of programs."""

from handedworld.base.forms import terms_in
from handedworld.base.procedures import Procedure
from handedworld.base.programs import Program
from handedworld.errors import InvalidProgram
from handedworld.reckon.checks import check_program
from handedworld.text.reading import head_in, row_in


def in_brackets(term):
    """The text of a term in brackets."""
    return f"({words_of(term)})"


def entry_text(entry):
    """The text of an entry of a table."""
    return "-" if entry is None else str(entry)


def words_of(term):
    """The text of a term."""
    kind = term[0]
    words = [kind]
    if kind in ("do", "run", "call", "scope", "exit", "raise"):
        words.append(term[1])
    if kind == "do":
        words.extend([entry_text(entry) for entry in term[2]])
    if kind == "answer":
        words.extend([f"{signal} {in_brackets(part)}" for signal, part in term[1]])
        words.append(in_brackets(term[2]))
    else:
        words.extend([in_brackets(part) for part in terms_in(term)])
    return " ".join(words)


def body_text(body):
    """The text of a whole body, which stands in brackets if terms can stand in it."""
    return words_of(body) if body[0] in ("do", "run", "exit", "raise") else in_brackets(body)


def row_text(procedure):
    """The line of a procedure."""
    front = " ".join(["proc", procedure.named] + list(procedure.parameters))
    return f"{front} : {body_text(procedure.body)}"


def write_program(program):
    """The text of a program."""
    check_program(program)
    head = " ".join(["program", str(program.modes)] + list(program.signals))
    return "\n".join([head] + [row_text(one) for one in program.procedures])


def read_program(text):
    """The program of a text."""
    if not isinstance(text, str):
        raise InvalidProgram("this is no text")
    lines = text.split("\n")
    modes, signals = head_in(lines[0], 0)
    rows = [row_in(line, 1 + number) for number, line in enumerate(lines[1:])]
    procedures = [Procedure(name, parameters, body) for name, parameters, body in rows]
    found = Program.of(modes, signals, tuple(procedures))
    if write_program(found) != text:
        raise InvalidProgram("no program has this text")
    return found
