"""Reads the lines of the text of a program by their form; what they tell can still be no program."""

from handedworld.base.words import LETTERS, is_number_text
from handedworld.errors import ParseError

MAX_BRACKETS = 12
NOTHING_LEFT = ""


def is_letters(text):
    """Whether a text is a word of letters a to z, of any length."""
    return len(text) > 0 and all([sign in LETTERS for sign in text])


def pieces_of(text):
    """The list of the words and brackets of a text.

    Within a piece that ends at a blank, a bracket is opened at its beginning alone, and
    brackets are closed at its end alone: so blanks stand just where they have to.
    """
    found = []
    for piece in text.split(" "):
        if piece.startswith("("):
            found.append("(")
            piece = piece[1:]
        word = piece.rstrip(")")
        found.append(word)
        found.extend([")" for _ in range(len(piece) - len(word))])
    return found


class TermReader:
    """Reads the text of a term, piece by piece."""

    def __init__(self, text, line):
        self.pieces = pieces_of(text)
        self.line = line
        self.spot = 0

    def ahead(self):
        """The piece that is read next, or an empty one at the end."""
        return self.pieces[self.spot] if self.spot < len(self.pieces) else NOTHING_LEFT

    def take_piece(self):
        """The piece ahead, which is read."""
        piece = self.ahead()
        self.spot += 1
        return piece

    def check(self, is_right):
        """Refuses the line unless this is so."""
        if not is_right:
            raise ParseError(self.line)

    def take_word(self):
        """The word ahead, which has to be one of letters."""
        self.check(is_letters(self.ahead()))
        return self.take_piece()

    def whole_term(self):
        """The whole term; nothing is left behind it."""
        term = self.bracketed(1) if self.ahead() == "(" else self.short_term(self.take_word())
        self.check(self.spot == len(self.pieces))
        return term

    def bracketed(self, deep):
        """A term in brackets, so deep."""
        self.check(self.take_piece() == "(" and deep <= MAX_BRACKETS)
        kind = self.take_word()
        if kind in ("do", "run", "exit", "raise"):
            term = self.short_term(kind)
        else:
            term = self.long_term(kind, deep)
        self.check(self.take_piece() == ")")
        return term

    def short_term(self, kind):
        """A term behind its first word, in which no terms stand."""
        if kind == "do":
            return (kind, self.take_word(), self.entries())
        self.check(kind in ("run", "exit", "raise"))
        return (kind, self.take_word())

    def long_term(self, kind, deep):
        """A term behind its first word, in which terms stand."""
        if kind in ("seq", "or", "and", "case"):
            return (kind,) + self.terms(deep)
        if kind == "call":
            return (kind, self.take_word()) + self.terms(deep)
        if kind == "scope":
            return (kind, self.take_word(), self.bracketed(deep + 1))
        self.check(kind == "answer")
        return (kind, self.pairs(deep), self.bracketed(deep + 1))

    def entries(self):
        """The entries of a table, at least one."""
        found = []
        while self.ahead() == "-" or is_number_text(self.ahead()):
            piece = self.take_piece()
            found.append(None if piece == "-" else int(piece))
        self.check(len(found) > 0)
        return tuple(found)

    def terms(self, deep):
        """All terms in brackets that follow."""
        found = []
        while self.ahead() == "(":
            found.append(self.bracketed(deep + 1))
        return tuple(found)

    def pairs(self, deep):
        """All pairs of a signal and a term in brackets that follow."""
        found = []
        while self.ahead() != "(":
            signal = self.take_word()
            found.append((signal, self.bracketed(deep + 1)))
        return tuple(found)


def head_in(text, line):
    """The number of modes and the signals that the first line tells."""
    words = text.split(" ")
    if len(words) < 2 or words[0] != "program" or not is_number_text(words[1]):
        raise ParseError(line)
    if not all([is_letters(word) for word in words[2:]]):
        raise ParseError(line)
    return int(words[1]), tuple(words[2:])


def row_in(text, line):
    """The name, the parameters and the body that the line of a procedure tells."""
    front, _, behind = text.partition(" : ")
    words = front.split(" ")
    if len(words) < 2 or words[0] != "proc":
        raise ParseError(line)
    if not all([is_letters(word) for word in words[1:]]):
        raise ParseError(line)
    return words[1], tuple(words[2:]), TermReader(behind, line).whole_term()
