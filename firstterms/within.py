"""Rows that are, or are not, sums of multiples of told rows for all n."""
from firstterms.blends import check_smooth, checked_blend
from firstterms.certificates import is_told
from firstterms.checks import check_level, is_number, is_tuple_of_integers
from firstterms.numberpairs import common_multiple, quotient
from firstterms.places import smooth_place
from firstterms.tables import brought_to_nought, reduced
from firstterms.termrows import check_like, checked_levels, combined, term_rows, weighted


def judge_within(blend, blends):
    """The certificate that a row is a sum of multiples of told rows, or that it is none."""
    own, rows = rows_within(blend, blends)
    numbers = numbers_of(own, rows)
    return ("not", parting_weights(own, rows)) if numbers is None else ("sum", numbers)


def within_holds(blend, blends, thing):
    """Whether any value is a right certificate that a row is a sum of multiples of told rows, or that it is none."""
    own, rows = rows_within(blend, blends)
    if is_told(thing, "sum", 2):
        return does_sum(thing[1], own, rows)
    return is_told(thing, "not", 2) and does_part(thing[1], own, rows)


def rows_within(blend, blends):
    """The terms of a blend, and of told ones, up to the place that decides; raises an error unless they are alike."""
    weight, level, sign = checked_blend(blend)
    levels = checked_levels(blends)
    check_like(blends, weight, sign)
    together = (blend,) + blends
    for one in together:
        check_smooth(one)
    common = common_multiple([level] + levels)
    check_level(common)
    rows = term_rows(together, smooth_place(weight, common) + 1)
    return rows[0], rows[1:]


def numbers_of(own, rows):
    """The numbers with which rows add up to their sum own; None if there are none."""
    many = len(rows)
    table, columns = reduced([list(terms) for terms in zip(*rows, own)], many)
    if any([row[many] != 0 for row in table[len(columns):]]):
        return None
    numbers = [(0, 1)] * many
    for row, column in zip(table, columns):
        numbers[column] = quotient(row[many], row[column])
    return tuple(numbers)


def parting_weights(own, rows):
    """Integers whose products with the terms add up to 0 for each row, but not for own, which is no sum of these."""
    many = len(own)
    table, columns = reduced(rows, many)
    found = [brought_to_nought(table, columns, n, many) for n in range(many) if n not in columns]
    return [weights for weights in found if weighted(weights, own) != 0][0]


def does_sum(thing, own, rows):
    """Whether any value is a tuple of numbers, one for each row, with which the rows add up to own."""
    if not isinstance(thing, tuple) or len(thing) != len(rows) or not all([is_number(number) for number in thing]):
        return False
    common = common_multiple([bottom for top, bottom in thing])
    return combined([top * (common // bottom) for top, bottom in thing], rows) == [common * term for term in own]


def does_part(thing, own, rows):
    """Whether any value is a tuple of integers, one for each term, that bring each row to 0, but not own."""
    if not is_tuple_of_integers(thing, len(own)) or weighted(thing, own) == 0:
        return False
    return all([weighted(thing, row) == 0 for row in rows])
