"""Rows that are told by their places, and are the terms of products."""
from firstterms.checks import check_count


def five_cornered(many):
    """The beginning of the row with (-1) ** m at m (3 m - 1) / 2, for all integers m."""
    check_count(many)
    return told_row(many, [(m * (3 * m - 1) // 2, turn(m)) for m in range(-many, many + 1)])


def cubes(many):
    """The beginning of the row with (-1) ** m (2 m + 1) at m (m + 1) / 2, for all m from 0 on."""
    check_count(many)
    return told_row(many, [(m * (m + 1) // 2, turn(m) * (2 * m + 1)) for m in range(many)])


def squares(many):
    """The beginning of the row that has at n the number of integers whose square is n."""
    check_count(many)
    return told_row(many, [(m * m, 1 if m == 0 else 2) for m in range(many)])


def turned_squares(many):
    """The beginning of the row of squares times (-1) ** n."""
    check_count(many)
    return told_row(many, [(m * m, 1 if m == 0 else 2 * turn(m * m)) for m in range(many)])


def triangles(many):
    """The beginning of the row with 1 at m (m + 1) / 2, for all m from 0 on."""
    check_count(many)
    return told_row(many, [(m * (m + 1) // 2, 1) for m in range(many)])


def turn(m):
    """(-1) ** m."""
    return 1 if m % 2 == 0 else -1


def told_row(many, told):
    """The beginning with these pairs of a place and a term, and 0 at all other places below many."""
    tops = [0] * many
    for place, term in told:
        if place < many:
            tops[place] = term
    return (1, tuple(tops))
