"""The forms of the commands of a shell, by their words alone."""

from handedworld.base.words import is_name, is_number_text
from handedworld.errors import InvalidCommand

# For each word behind the first one: n for a name, i for an integer.
FORMS = {
    "new": "n",
    "copy": "nn",
    "drop": "n",
    "cut": "nnii",
    "turn": "nnn",
    "text": "n",
    "reach": "nii",
    "keep": "nii",
    "does": "nin",
    "raises": "nin",
    "idle": "nnn",
    "alike": "nnn",
    "plain": "nn",
}


def word_fits(kind, word):
    """Whether a word of a command is of its kind."""
    return is_name(word) if kind == "n" else is_number_text(word)


def fits_form(words):
    """Whether the words are those of a command."""
    if words[0] not in FORMS or len(words) - 1 != len(FORMS[words[0]]):
        return False
    return all([word_fits(kind, word) for kind, word in zip(FORMS[words[0]], words[1:])])


def word_meant(kind, word):
    """What a word of a command tells: a name, or an integer."""
    return word if kind == "n" else int(word)


def told_in(command):
    """The first word of a command, the tuple of what its other words tell, and the text below it."""
    if not isinstance(command, str):
        raise InvalidCommand("this is no text")
    head, newline, below = command.partition("\n")
    words = head.split(" ")
    if not fits_form(words) or (newline == "\n") != (words[0] == "new"):
        raise InvalidCommand("this is no command")
    told = [word_meant(kind, word) for kind, word in zip(FORMS[words[0]], words[1:])]
    return words[0], tuple(told), below
