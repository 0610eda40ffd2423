"""Names and numbers, as they stand in all that is passed."""

LETTERS = "abcdefghijklmnopqrstuvwxyz"
DIGITS = "0123456789"
MAX_LETTERS = 8
MAX_DIGITS = 40
MAX_MODES = 3


def is_name(value):
    """Whether the value is a name: a string of one to eight letters a to z."""
    if not isinstance(value, str) or not 1 <= len(value) <= MAX_LETTERS:
        return False
    return all([letter in LETTERS for letter in value])


def is_number(value):
    """Whether the value is an integer, which True and False are not."""
    return isinstance(value, int) and not isinstance(value, bool)


def is_index(value, many):
    """Whether the value is an integer from 0 on that is below this number."""
    return is_number(value) and 0 <= value < many


def is_number_text(text):
    """Whether a text is an integer from 0 on of at most forty digits, without leading zeros."""
    if not 1 <= len(text) <= MAX_DIGITS or not all([sign in DIGITS for sign in text]):
        return False
    return len(text) == 1 or text[0] != "0"


def are_names(value):
    """Whether the value is a tuple of different names, in any order."""
    if not isinstance(value, tuple) or not all([is_name(name) for name in value]):
        return False
    return len(set(value)) == len(value)


def are_ascending(names):
    """Whether these names are strictly ascending."""
    return all([one < other for one, other in zip(names, names[1:])])
