"""Forms in two, four, six or eight unknowns: values, levels, signs, and forms made of forms."""
from math import gcd

from firstterms.checks import check_from, is_between, is_integer
from firstterms.errors import BadForm, BadNumber, BadRow, BadTable, TooMany
from firstterms.numberpairs import common_multiple
from firstterms.signs import any_sign_of
from firstterms.tables import cleared, determinant, is_table_of_integers, stair

SIZES = (2, 4, 6, 8)


def is_form(thing):
    """Whether any value is a form."""
    if not isinstance(thing, tuple) or len(thing) not in SIZES or not is_table_of_integers(thing, len(thing)):
        return False
    return is_small_and_even(thing) and len(stair(thing)) == len(thing)


def is_small_and_even(table):
    """Whether a table has integers of at most 100, is the same turned over, and is even on its diagonal."""
    m = len(table)
    if not all([is_between(entry, -100, 100) for row in table for entry in row]):
        return False
    if not all([table[i][j] == table[j][i] for i in range(m) for j in range(i)]):
        return False
    return all([table[i][i] % 2 == 0 for i in range(m)])


def check_form(form):
    """Raises BadForm if a value is no form."""
    if not is_form(form):
        raise BadForm(form)


def value_at(form, x):
    """The value of a form at a tuple of unknowns."""
    check_form(form)
    m = len(form)
    if not isinstance(x, tuple) or len(x) != m or not all([is_integer(unknown) for unknown in x]):
        raise BadRow(x)
    return sum([x[i] * form[i][j] * x[j] for i in range(m) for j in range(m)]) // 2


def determinant_of(form):
    """The determinant of a form."""
    check_form(form)
    return determinant(form)


def form_sign(form):
    """The sign of a form."""
    check_form(form)
    size = determinant(form)
    return any_sign_of(size if len(form) % 4 == 0 else -size)


def form_level(form):
    """The level of a form."""
    check_form(form)
    return level_of_table(determinant(form), inverse_times(form))


def inverse_times(form):
    """The inverse table of a form, times its determinant."""
    m = len(form)
    table = cleared([list(form[i]) + [1 if i == j else 0 for j in range(m)] for i in range(m)], m)
    return [row[m:] for row in table]


def level_of_table(size, table):
    """The least integer N for which N / size times a table consists of integers, with even ones on its diagonal."""
    m = len(table)
    bottoms = [size // gcd(size, table[i][j]) for i in range(m) for j in range(i)]
    halves = [2 * size // gcd(2 * size, table[i][i]) for i in range(m)]
    return common_multiple(bottoms + halves)


def partner_form(form):
    """The level of a form times its inverse table."""
    check_form(form)
    size = determinant(form)
    table = inverse_times(form)
    level = level_of_table(size, table)
    return checked_table([[level * entry // size for entry in row] for row in table])


def checked_table(rows):
    """The table as a tuple of tuples; raises TooMany if an integer is more than 100 from 0."""
    if any([abs(entry) > 100 for row in rows for entry in row]):
        raise TooMany(100)
    return tuple([tuple(row) for row in rows])


def beside(one, other):
    """The form whose value is the sum of the values of two, the unknowns of the first ahead of the second one's."""
    check_form(one)
    check_form(other)
    if len(one) + len(other) > 8:
        raise TooMany(8)
    above = [row + (0,) * len(other) for row in one]
    below = [(0,) * len(one) + row for row in other]
    return tuple(above + below)


def times_form(form, t):
    """A form times an integer t from 1 on."""
    check_form(form)
    check_from(t, 1)
    return checked_table([[t * entry for entry in row] for row in form])


def squares_form(m):
    """The form of squares in m unknowns."""
    if m not in SIZES:
        raise BadNumber(m)
    return tuple([tuple([2 if i == j else 0 for j in range(m)]) for i in range(m)])


def changed_form(form, table):
    """The form changed by a table of integers with the determinant 1 or -1."""
    check_form(form)
    if not is_table_of_integers(table, len(form)) or abs(determinant(table)) != 1:
        raise BadTable(table)
    m = len(form)
    half = [[sum([form[i][k] * table[k][j] for k in range(m)]) for j in range(m)] for i in range(m)]
    return checked_table([[sum([table[k][i] * half[k][j] for k in range(m)]) for j in range(m)] for i in range(m)])
