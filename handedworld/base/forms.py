"""The forms of terms, and the terms that stand in a term."""

from handedworld.base.words import MAX_MODES, are_ascending, is_index, is_name


def is_deed(term):
    """Whether this is a deed: a word, and a table of one to three entries."""
    if len(term) != 3 or not is_name(term[1]) or not isinstance(term[2], tuple):
        return False
    if not 1 <= len(term[2]) <= MAX_MODES:
        return False
    return all([entry is None or is_index(entry, MAX_MODES) for entry in term[2]])


def is_sequence(term):
    """Any number of terms may stand one after the other."""
    return True


def is_choice(term):
    """Whether there is a term to choose."""
    return len(term) >= 2


def is_case(term):
    """Whether there are one to three terms."""
    return 1 <= len(term) - 1 <= MAX_MODES


def is_named(term):
    """Whether there is a name, and nothing else."""
    return len(term) == 2 and is_name(term[1])


def is_call(term):
    """Whether there is a name, with any number of terms."""
    return len(term) >= 2 and is_name(term[1])


def is_scope(term):
    """Whether there is a name, with one term."""
    return len(term) == 3 and is_name(term[1])


def is_answer(term):
    """Whether there are answers to different signals, ascending, and one term."""
    if len(term) != 3 or not isinstance(term[1], tuple) or len(term[1]) == 0:
        return False
    for pair in term[1]:
        if not isinstance(pair, tuple) or len(pair) != 2 or not is_name(pair[0]):
            return False
    return are_ascending([pair[0] for pair in term[1]])


FORMS = {
    "do": is_deed,
    "seq": is_sequence,
    "or": is_choice,
    "and": is_choice,
    "case": is_case,
    "run": is_named,
    "call": is_call,
    "scope": is_scope,
    "exit": is_named,
    "raise": is_named,
    "answer": is_answer,
}


def has_form(value):
    """Whether the value has the form of a term; the terms in it are not looked at."""
    if not isinstance(value, tuple) or len(value) == 0:
        return False
    if not isinstance(value[0], str) or value[0] not in FORMS:
        return False
    fits = FORMS[value[0]]
    return fits(value)


def terms_in(term):
    """The terms that stand in a term, in their order."""
    kind = term[0]
    if kind in ("seq", "or", "and", "case"):
        return term[1:]
    if kind == "call":
        return term[2:]
    if kind == "scope":
        return term[2:]
    if kind == "answer":
        return tuple([pair[1] for pair in term[1]]) + term[2:]
    return ()


def terms_of(term):
    """The list of the term and all terms in it, in the order in which they begin."""
    found = [term]
    for part in terms_in(term):
        found = found + terms_of(part)
    return found
