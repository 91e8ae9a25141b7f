"""The ways of integers: the tuples of unknowns at which a form has them as its value."""
from math import isqrt

from firstterms.checks import check_count, check_from
from firstterms.errors import TooMany
from firstterms.forms import check_form
from firstterms.tables import stair


def ways(form, n):
    """How many ways an integer from 0 on has."""
    check_form(form)
    check_from(n, 0)
    return form_row(form, n + 1)[n]


def all_ways(form, n, most):
    """The ascending tuple of all ways of an integer from 0 on."""
    check_form(form)
    check_from(n, 0)
    check_from(most, 0)
    smaller, unknowns = made_smaller(form)
    found = [x for value, x in small_tuples(smaller, n) if value == n]
    if len(found) > most:
        raise TooMany(most)
    return tuple(sorted([turned_back(unknowns, x) for x in found]))


def form_terms(form, many):
    """The beginning of the row of a form."""
    check_form(form)
    check_count(many)
    return (1, tuple(form_row(form, many)))


def form_row(form, many):
    """How many ways each n below many has, for callers that have checked the form; many is from 1 on."""
    smaller, _ = made_smaller(form)
    row = [0] * many
    for value, x in small_tuples(smaller, many - 1):
        row[value] += 1
    return row


def made_smaller(form):
    """A form with as many ways of each n, but a smaller diagonal, and the rows that lead its unknowns back.

    In a form with a great diagonal far more tuples would have to be tried than there are ways.
    """
    m = len(form)
    table = [list(row) for row in form]
    unknowns = [[1 if i == j else 0 for j in range(m)] for i in range(m)]
    step = smaller_step(table)
    while step is not None:
        i, j, often = step
        table[i] = less_often(table[i], table[j], often)
        table = [less_often_at(row, i, j, often) for row in table]
        unknowns[i] = less_often(unknowns[i], unknowns[j], often)
        step = smaller_step(table)
    return table, unknowns


def smaller_step(table):
    """Two places i and j, and how often j taken from i makes the entry at [i][i] less; None if no two do so."""
    for i, row in enumerate(table):
        for j, entry in enumerate(row):
            size = table[j][j]
            if i != j and 2 * abs(entry) > size:
                return i, j, (2 * entry + size) // (2 * size)
    return None


def less_often(row, other, often):
    """A row less another one, so often."""
    return [a - often * b for a, b in zip(row, other)]


def less_often_at(row, i, j, often):
    """A row whose entry at i is less by the one at j, so often."""
    return [entry - often * row[j] if k == i else entry for k, entry in enumerate(row)]


def turned_back(unknowns, x):
    """The tuple of unknowns of the first form that belongs to one of the smaller form."""
    m = len(x)
    return tuple([sum([x[i] * unknowns[i][k] for i in range(m)]) for k in range(m)])


def small_tuples(table, most):
    """All pairs (value, x) of tuples of unknowns at which the value of a form is at most an integer from 0 on."""
    rows = stair(table)
    sizes = [1] + [row[k] for k, row in enumerate(rows)]
    # The value is a sum of squares over the sizes; so the last unknown is bounded, then the one ahead of it, and so on.
    found = [(0, ())]
    for k in reversed(range(len(rows))):
        found = [longer for short in found for longer in with_one_more(short, rows[k], k, sizes, 2 * most)]
    return [(double // 2, x) for double, x in found]


def with_one_more(short, row, k, sizes, most):
    """The longer tuples that a tuple of the unknowns behind k makes with an unknown k in front of it.

    With each tuple stands the least double value that it lets, whatever the unknowns ahead of it, times sizes[k].
    """
    total, x = short
    below, size = sizes[k], sizes[k + 1]
    rest = sum([row[k + 1 + i] * x[i] for i in range(len(x))])
    reach = isqrt(below * (most * size - total))
    longer = []
    for unknown in range(-((reach + rest) // size), (reach - rest) // size + 1):
        root = size * unknown + rest
        longer.append(((below * total + root * root) // size, (unknown,) + x))
    return longer
