"""Duels: runs in which one side chooses by a paper."""

from handedworld.ask.bouts import Bout
from handedworld.ask.goals import check_question, is_keep_paper, is_reach_paper
from handedworld.base.words import is_number
from handedworld.errors import InvalidMeaning, InvalidOperation
from handedworld.reckon.plans import Plan
from handedworld.runs.runs import MAX_STEPS


def copied_book(book):
    """A book with the same maps, its contexts in ascending order."""
    return {context: book[context] for context in sorted(list(book))}


def copied_paper(paper):
    """A paper that is equal to this one, and shares no book with it."""
    if isinstance(paper[1], dict):
        return (paper[0], copied_book(paper[1]))
    return (paper[0], tuple([copied_book(book) for book in paper[1]]))


def check_paper(program, start, goal, paper):
    """Refuses what is no paper about this program, mode and goal."""
    if is_reach_paper(program, start, goal, paper):
        return
    if not is_keep_paper(program, start, goal, paper):
        raise InvalidMeaning("this is no paper about this mode and goal")


class Duel:
    """A duel, which never changes."""

    def __init__(self, program, start, goal, paper, *answers):
        check_question(program, start, goal)
        check_paper(program, start, goal, paper)
        if not all([is_number(index) and index >= 0 for index in answers]):
            raise InvalidOperation("answers are integers from 0 on")
        self._program = program
        self._start = start
        self._goal = goal
        self._paper = copied_paper(paper)
        self._answers = answers
        books = self._paper[1]
        if isinstance(books, dict):
            books = (books,)
        bout = Bout(Plan(program, goal), paper[0], books, start, answers)
        bout.go(MAX_STEPS)
        self._choices = tuple(bout.chosen_so_far)
        self._state = bout.fate
        self._mode = bout.now
        self._words = tuple(bout.done)
        self._steps = bout.taken
        self._options = len(bout.term_ahead()) - 1 if bout.fate == "waiting" else 0

    @classmethod
    def of(cls, program, start, goal, paper, answers):
        """The duel with the answers of a tuple."""
        if not isinstance(answers, tuple):
            return cls(program, start, goal, paper, None)
        return cls(program, start, goal, paper, *answers)

    @property
    def program(self):
        """The program."""
        return self._program

    @property
    def start(self):
        """The mode in which it begins."""
        return self._start

    @property
    def goal(self):
        """The goal."""
        return self._goal

    @property
    def paper(self):
        """The paper by which one side chooses."""
        return copied_paper(self._paper)

    @property
    def answers(self):
        """The choices that were told for the other side, in their order."""
        return self._answers

    @property
    def choices(self):
        """The choices of both sides, in their order."""
        return self._choices

    @property
    def state(self):
        """One of "came", "ended", "stuck", "asking", "far" and "waiting"."""
        return self._state

    @property
    def mode(self):
        """The mode at last."""
        return self._mode

    @property
    def words(self):
        """The words of the deeds that were done, in their order."""
        return self._words

    @property
    def steps(self):
        """The number of the steps that were taken."""
        return self._steps

    @property
    def options(self):
        """The number of the terms of the choice at which it waits, or 0."""
        return self._options

    def answered(self, *more):
        """The duel with more answers at the end."""
        return Duel.of(self._program, self._start, self._goal, self._paper, self._answers + more)

    def __len__(self):
        return len(self._choices)

    def __eq__(self, other):
        return (
            isinstance(other, Duel)
            and self._program == other._program
            and self._start == other._start
            and self._goal == other._goal
            and self._paper == other._paper
            and self._answers == other._answers
        )

    def __str__(self):
        return f"duel by {self._paper[0]}, {len(self._choices)} choices, {self._state} in {self._mode}"
