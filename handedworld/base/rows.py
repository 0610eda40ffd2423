"""Bodies laid out in rows, so that each term in a body is told by a number."""

from handedworld.base.forms import terms_in


def lay_out(term, rows):
    """Adds a term and all terms in it to the rows, and returns its number.

    A row is a term with the numbers of the terms in it.
    """
    number = len(rows)
    rows.append((term, []))
    for part in terms_in(term):
        rows[number][1].append(lay_out(part, rows))
    return number


def rows_of(body):
    """The list of the rows of a body; the body itself is the first one."""
    rows = []
    lay_out(body, rows)
    return rows
