"""Reckoning with tables of integers, without any fractions."""
from math import gcd

from firstterms.checks import is_integer


def is_table_of_integers(thing, many):
    """Whether any value is a tuple of so many tuples of so many integers."""
    if not isinstance(thing, tuple) or len(thing) != many:
        return False
    if not all([isinstance(row, tuple) and len(row) == many for row in thing]):
        return False
    return all([is_integer(entry) for row in thing for entry in row])


def reduced(rows, many):
    """The rows cleared in as many of the first columns as can be, and the ascending list of these columns.

    The first rows have one number, which is not 0, in the columns of the list, each in its own and 0 in the others;
    the other rows have 0 in all of the first columns. Rows are only added up, multiplied and exchanged, so they still
    tell the same equations.
    """
    table = [list(row) for row in rows]
    last = 1
    columns = []
    for k in range(many):
        done = len(columns)
        at = first_row_with(table, k, done)
        if at is not None:
            if at > done:
                # With its signs turned, an exchanged row keeps the determinant.
                table[done], table[at] = table[at], [-entry for entry in table[done]]
            pivot = table[done]
            table = [pivot if i == done else without(row, pivot, k, last) for i, row in enumerate(table)]
            last = pivot[k]
            columns.append(k)
    return table, columns


def cleared(rows, many):
    """The rows with one number on the diagonal of as many first columns, and 0 elsewhere in these columns.

    The number on the diagonal is the determinant of these columns; if it is 0, the result is None.
    """
    table, columns = reduced(rows, many)
    return table if len(columns) == many else None


def first_row_with(table, k, least):
    """The first row from least on in which the entry of column k is not 0; None if there is none."""
    for i in range(least, len(table)):
        if table[i][k] != 0:
            return i
    return None


def without(row, pivot, k, last):
    """A row less so much of the pivot's row that its entry of column k is 0."""
    # Every entry is a determinant of a part of the first table (E. Bareiss), so the division leaves nothing.
    return [(pivot[k] * entry - row[k] * other) // last for entry, other in zip(row, pivot)]


def determinant(rows):
    """The determinant of a square table."""
    table = cleared(rows, len(rows))
    return 0 if table is None else table[0][0]


def brought_to_nought(table, columns, k, many):
    """As many integers, the one at k not 0, whose products with the entries of each row add up to 0.

    The table and its columns are reduced ones, and k is none of the columns.
    """
    found = [0] * many
    found[k] = table[0][columns[0]] if columns else 1
    for row, column in zip(table, columns):
        found[column] = -row[k]
    common = 0
    for integer in found:
        common = gcd(common, integer)
    return tuple([integer // common for integer in found])


def stair(rows):
    """The rows of a square table, each cleared by those above it, as far as the diagonal is above 0.

    The entry at [k][k] is the determinant of the first k + 1 rows and columns.
    """
    rest = [list(row) for row in rows]
    done = []
    last = 1
    for k in range(len(rows)):
        pivot = rest[0]
        if pivot[k] <= 0:
            return done
        done.append(pivot)
        rest = [without(row, pivot, k, last) for row in rest[1:]]
        last = pivot[k]
    return done
