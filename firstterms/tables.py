"""Reckoning with square tables of integers, without any fractions."""
from firstterms.checks import is_integer


def is_table_of_integers(thing, many):
    """Whether any value is a tuple of so many tuples of so many integers."""
    if not isinstance(thing, tuple) or len(thing) != many:
        return False
    if not all([isinstance(row, tuple) and len(row) == many for row in thing]):
        return False
    return all([is_integer(entry) for row in thing for entry in row])


def cleared(rows, many):
    """The rows with one number on the diagonal of as many first columns, and 0 elsewhere in these columns.

    Rows are only added up, multiplied and exchanged, so they still tell the same equations. The number on the diagonal
    is the determinant of these columns; if it is 0, the result is None.
    """
    table = [list(row) for row in rows]
    last = 1
    for k in range(many):
        at = first_row_with(table, k)
        if at is None:
            return None
        if at > k:
            # With its signs turned, an exchanged row keeps the determinant.
            table[k], table[at] = table[at], [-entry for entry in table[k]]
        pivot = table[k]
        table = [pivot if i == k else without(row, pivot, k, last) for i, row in enumerate(table)]
        last = pivot[k]
    return table


def first_row_with(table, k):
    """The first row from k on in which the entry of column k is not 0; None if there is none."""
    for i in range(k, len(table)):
        if table[i][k] != 0:
            return i
    return None


def without(row, pivot, k, last):
    """A row less so much of the pivot's row that its entry of column k is 0."""
    # Every entry is a determinant of a part of the first table (E. Bareiss), so the division leaves nothing.
    return [(pivot[k] * entry - row[k] * other) // last for entry, other in zip(row, pivot)]


def determinant(rows):
    """The determinant of a square table."""
    table = cleared(rows, len(rows))
    return 0 if table is None else table[0][0]


def stair(rows):
    """The rows of a square table, each cleared by those above it, as far as the diagonal is above 0.

    The entry at [k][k] is the determinant of the first k + 1 rows and columns.
    """
    rest = [list(row) for row in rows]
    done = []
    last = 1
    for k in range(len(rows)):
        pivot = rest[0]
        if pivot[k] <= 0:
            return done
        done.append(pivot)
        rest = [without(row, pivot, k, last) for row in rest[1:]]
        last = pivot[k]
    return done
