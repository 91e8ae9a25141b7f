"""How many rows of a weight and a level there are, and tuples of blends all others are made of."""
from firstterms.blends import check_smooth
from firstterms.certificates import is_told
from firstterms.checks import check_level, is_between, is_integer, is_tuple_of_integers
from firstterms.edges import edges_of, index_of
from firstterms.errors import BadWeight, OtherLevel
from firstterms.places import smooth_place
from firstterms.tables import brought_to_nought, determinant, reduced
from firstterms.termrows import check_like, checked_levels, combined, term_rows


def genus_of(level):
    """The genus of a level."""
    check_level(level)
    around = how_many_roots(level, 0), how_many_roots(level, 1)
    return (12 + index_of(level) - 3 * around[0] - 4 * around[1] - 6 * how_many_edges_in_all(level)) // 12


def how_many_edges_in_all(level):
    """How many edges a level has."""
    return sum([many for c, many, width in edges_of(level)])


def how_many_roots(level, factor):
    """For how many x from 0 on below a level it divides x x + factor x + 1."""
    return len([x for x in range(level) if (x * x + factor * x + 1) % level == 0])


def dimension(level, weight):
    """The dimension of a level and an even weight."""
    check_level(level)
    check_even_weight(weight)
    genus, edges = genus_of(level), how_many_edges_in_all(level)
    if weight == 2:
        return genus + edges - 1
    around = weight // 4 * how_many_roots(level, 0) + weight // 3 * how_many_roots(level, 1)
    return (weight - 1) * (genus - 1) + around + weight // 2 * edges


def inner_dimension(level, weight):
    """The inner dimension of a level and an even weight."""
    whole = dimension(level, weight)
    return genus_of(level) if weight == 2 else whole - how_many_edges_in_all(level)


def check_even_weight(weight):
    """Raises BadWeight if a value is no even integer from 2 to 24."""
    if not is_between(weight, 2, 24) or weight % 2 != 0:
        raise BadWeight(weight)


def judge_base(level, weight, blends):
    """The certificate that all rows are made of told ones in one way, that these are few, or are tied together."""
    size, rows = rows_of_base(level, weight, blends)
    if len(rows) < size:
        return ("few", size)
    relation = relation_of(rows)
    if relation is not None:
        return ("relation", relation)
    return ("base", tuple(reduced(rows, len(rows[0]))[1]))


def base_holds(level, weight, blends, thing):
    """Whether any value is a right certificate of [8.3]."""
    size, rows = rows_of_base(level, weight, blends)
    if is_told(thing, "base", 2):
        return len(rows) == size and are_base_places(thing[1], rows)
    if is_told(thing, "few", 2):
        return len(rows) < size and is_integer(thing[1]) and thing[1] == size
    return is_told(thing, "relation", 2) and is_relation(thing[1], rows)


def rows_of_base(level, weight, blends):
    """The dimension, and the terms of blends up to the place that decides; raises an error unless all is right."""
    size = dimension(level, weight)
    levels = checked_levels(blends)
    check_like(blends, weight, 1)
    for blend, own in zip(blends, levels):
        if level % own != 0:
            raise OtherLevel(blend)
    for blend in blends:
        check_smooth(blend)
    return size, term_rows(blends, smooth_place(weight, level) + 1)


def relation_of(rows):
    """Integers, not all 0, with which rows add up to 0; None if there are none."""
    many = len(rows)
    table, columns = reduced([list(terms) for terms in zip(*rows)], many)
    free = [k for k in range(many) if k not in columns]
    return brought_to_nought(table, columns, free[0], many) if free else None


def is_relation(thing, rows):
    """Whether any value is a tuple of integers, not all 0, with which rows add up to 0."""
    if not is_tuple_of_integers(thing, len(rows)) or all([integer == 0 for integer in thing]):
        return False
    return all([term == 0 for term in combined(thing, rows)])


def are_base_places(thing, rows):
    """Whether any value is an ascending tuple of as many n as rows at which the determinant of the terms is not 0."""
    if not is_tuple_of_integers(thing, len(rows)) or not all([is_between(n, 0, len(rows[0]) - 1) for n in thing]):
        return False
    if not all([thing[i] < thing[i + 1] for i in range(len(thing) - 1)]):
        return False
    return determinant([[row[n] for n in thing] for row in rows]) != 0
