"""Tuples of told blends, and the beginnings of their rows as integers."""
from firstterms.blends import blend_facts, blend_row
from firstterms.errors import BadBlends, OtherSign, OtherWeight
from firstterms.numberpairs import common_multiple


def checked_levels(blends):
    """The levels of a tuple of one to twelve blends; raises BadBlends if a value is none."""
    if not isinstance(blends, tuple) or not 1 <= len(blends) <= 12:
        raise BadBlends(blends)
    facts = [blend_facts(blend) for blend in blends]
    if any([fact is None for fact in facts]):
        raise BadBlends(blends)
    return [fact[1] for fact in facts]


def check_like(blends, weight, sign):
    """Raises an error if one of some blends has another weight, or else another sign."""
    facts = [blend_facts(blend) for blend in blends]
    for blend, fact in zip(blends, facts):
        if fact[0] != weight:
            raise OtherWeight(blend)
    for blend, fact in zip(blends, facts):
        if fact[2] != sign:
            raise OtherSign(blend)


def term_rows(blends, many):
    """For each of some smooth blends so many of its terms, all of them times one integer that makes them integers."""
    rows = [blend_row(blend, 0, many) for blend in blends]
    bottom = common_multiple([below for below, tops in rows])
    return [[bottom // below * top for top in tops] for below, tops in rows]


def combined(integers, rows):
    """The row that is the sum of some rows, each times its integer."""
    return [sum([integer * row[n] for integer, row in zip(integers, rows)]) for n in range(len(rows[0]))]


def weighted(weights, row):
    """The sum of the terms of a row, each times its weight."""
    return sum([weight * term for weight, term in zip(weights, row)])
