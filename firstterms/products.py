"""Endless products, their terms, levels and signs, and products made of products."""
from math import gcd

from firstterms.checks import check_count, check_from, check_level, is_between, is_pair_of_integers
from firstterms.errors import BadProduct, NotWhole, OtherLevel, TooMany
from firstterms.numberpairs import common_multiple, lowest_terms
from firstterms.signs import any_sign_of


def is_product(thing):
    """Whether any value is a product."""
    if not isinstance(thing, tuple) or len(thing) > 8:
        return False
    if not all([is_product_pair(pair) for pair in thing]):
        return False
    return all([thing[i][0] < thing[i + 1][0] for i in range(len(thing) - 1)])


def is_product_pair(thing):
    """Whether any value may be a pair (d, r) of a product."""
    if not is_pair_of_integers(thing):
        return False
    d, r = thing
    return 1 <= d <= 400 and is_between(r, -48, 48) and r != 0


def check_product(product):
    """Raises BadProduct if a value is no product."""
    if not is_product(product):
        raise BadProduct(product)


def start_of(product):
    """The start of a product, a number."""
    check_product(product)
    return lowest_terms(sum([d * r for d, r in product]), 24)


def product_weight(product):
    """The weight of a product, a number."""
    check_product(product)
    return lowest_terms(sum([r for d, r in product]), 2)


def product_terms(product, many):
    """The beginning of so many terms of a product."""
    check_product(product)
    check_count(many)
    return (1, tuple(terms_below(product, many)))


def terms_below(product, many):
    """The terms of a product at all n below many, for callers that have checked the product; many is from 1 on."""
    slopes = slopes_of(product, many)
    terms = [1]
    # The product's slope is the product times the slope of its logarithm; this tells term by term.
    for n in range(1, many):
        total = sum([slopes[i] * terms[n - i] for i in range(1, n + 1)])
        terms.append(-total // n)
    return terms


def slopes_of(product, many):
    """At each n below many the sum of r e over all pairs (d, r) and all e that divide n and are multiples of d."""
    slopes = [0] * many
    for d, r in product:
        for e in range(d, many, d):
            for n in range(e, many, e):
                slopes[n] += r * e
    return slopes


def is_whole(product):
    """Whether a product has an integer as its weight and as its start."""
    return sum([r for d, r in product]) % 2 == 0 and sum([d * r for d, r in product]) % 24 == 0


def does_fit(product, level):
    """Whether a product fits a level."""
    check_product(product)
    check_level(level)
    if not is_whole(product) or not does_all_divide(product, level):
        return False
    return sum([level // d * r for d, r in product]) % 24 == 0


def does_all_divide(product, level):
    """Whether each d of a product divides a level."""
    return all([level % d == 0 for d, r in product])


def product_level(product):
    """The least level that a product fits, also above 400; None if the product is not whole."""
    check_product(product)
    if not is_whole(product):
        return None
    common = common_multiple([d for d, r in product])
    turned = sum([common // d * r for d, r in product])
    return common * (24 // gcd(24, turned))


def product_sign(product):
    """The sign of a whole product."""
    check_product(product)
    if not is_whole(product):
        raise NotWhole(product)
    weight = sum([r for d, r in product]) // 2
    m = 1 if weight % 2 == 0 else -1
    for d, r in product:
        if r % 2 == 1:
            m = m * d
    return any_sign_of(m)


def joined_product(one, other):
    """The product that has for each d the sum of the r of two products."""
    check_product(one)
    check_product(other)
    sums = {}
    for d, r in one + other:
        sums[d] = sums.get(d, 0) + r
    return checked_pairs([(d, r) for d, r in sums.items() if r != 0])


def checked_pairs(pairs):
    """The product of these pairs; raises TooMany if it would be none."""
    if any([d > 400 for d, r in pairs]):
        raise TooMany(400)
    if any([abs(r) > 48 for d, r in pairs]):
        raise TooMany(48)
    if len(pairs) > 8:
        raise TooMany(8)
    return tuple(sorted(pairs))


def undone_product(product):
    """The product with each r with the opposite sign."""
    check_product(product)
    return tuple([(d, -r) for d, r in product])


def turned_product(product, level):
    """The product of the pairs (level / d, r)."""
    check_product(product)
    check_level(level)
    if not does_all_divide(product, level):
        raise OtherLevel(level)
    return tuple(sorted([(level // d, r) for d, r in product]))


def spread_product(product, t):
    """The product of the pairs (t d, r)."""
    check_product(product)
    check_from(t, 1)
    return checked_pairs([(t * d, r) for d, r in product])
