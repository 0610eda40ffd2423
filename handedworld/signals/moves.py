"""The rows and moves of charts: their forms, and which moves can be made."""

from handedworld.base.words import are_ascending, is_index, is_name

MAX_ROWS = 4
MAX_POINTS = 4
MAX_MOVES = 6


def is_unwinds(modes, points, value):
    """Whether the value is an ascending tuple of pairs of a mode and a point, with different modes."""
    if not isinstance(value, tuple):
        return False
    for pair in value:
        if not isinstance(pair, tuple) or len(pair) != 2:
            return False
        if not is_index(pair[0], modes) or not is_index(pair[1], points):
            return False
    return are_ascending([pair[0] for pair in value])


def are_answers(modes, signals, names, points, value):
    """Whether the value is an ascending tuple of answers to different signals."""
    if not isinstance(value, tuple):
        return False
    for answer in value:
        if not isinstance(answer, tuple) or len(answer) != 3:
            return False
        if answer[0] not in signals or answer[1] not in names:
            return False
        if not is_unwinds(modes, points, answer[2]):
            return False
    return are_ascending([answer[0] for answer in value])


def is_move(modes, signals, names, points, value):
    """Whether the value is a move of a row with so many points."""
    if not isinstance(value, tuple) or len(value) < 2 or not isinstance(value[0], str):
        return False
    if not is_index(value[1], points):
        return False
    if value[0] == "leave":
        return len(value) == 2
    if len(value) < 4 or not is_index(value[2], points):
        return False
    if value[0] == "go":
        return len(value) == 5 and is_index(value[3], modes) and is_index(value[4], modes)
    if value[0] == "raise":
        return len(value) == 4 and value[3] in signals
    if value[0] != "call" or len(value) != 5 or value[3] not in names:
        return False
    return are_answers(modes, signals, names, points, value[4])


def has_row_form(value):
    """Whether the value is a name, a number of points, and a tuple of moves that are not looked at."""
    if not isinstance(value, tuple) or len(value) != 3 or not is_name(value[0]):
        return False
    if not is_index(value[1], MAX_POINTS + 1) or value[1] == 0:
        return False
    return isinstance(value[2], tuple) and len(value[2]) <= MAX_MOVES


def fits_chart(modes, signals, value):
    """Whether the value is a chart with so many modes and these signals."""
    if not isinstance(value, tuple) or not 1 <= len(value) <= MAX_ROWS:
        return False
    if not all([has_row_form(row) for row in value]):
        return False
    names = [row[0] for row in value]
    if len(set(names)) != len(names):
        return False
    return all([is_move(modes, signals, names, row[1], move) for row in value for move in row[2]])


def row_of(chart, name):
    """The row with this name."""
    return [row for row in chart if row[0] == name][0]


def moves_at(chart, name, point, mode):
    """The list of the moves that can be made at a point in a mode, in their order."""
    here = [move for move in row_of(chart, name)[2] if move[1] == point]
    return [move for move in here if move[0] != "go" or move[3] == mode]
