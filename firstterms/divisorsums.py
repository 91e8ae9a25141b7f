"""Divisor pieces: rows of sums over divisors."""
from firstterms.beginnings import lowered
from firstterms.bernoulli import bernoulli
from firstterms.certificates import is_told
from firstterms.checks import check_count, is_between, is_from
from firstterms.errors import BadSum
from firstterms.numberpairs import lowest_terms, number_product, raised
from firstterms.signs import is_sign, joined_sign, value_at


def is_divisor_piece(thing):
    """Whether any value is a divisor piece ("sum", k, D, E, t)."""
    if not is_told(thing, "sum", 5):
        return False
    _, k, one, other, t = thing
    if not is_between(k, 1, 24) or not is_sign(one) or not is_sign(other) or not is_from(t, 1):
        return False
    # A sign has the value 1 at -1 if it is above 0.
    if (one * other > 0) != (k % 2 == 0) or abs(one * other) * t > 400:
        return False
    if k == 1:
        return one < other
    return t >= 2 or not is_plain(thing)


def is_plain(divisor_piece):
    """Whether a divisor piece has the weight 2 and the sign 1 twice, so that its row is told in another way."""
    return divisor_piece[1:4] == (2, 1, 1)


def check_divisor_piece(divisor_piece):
    """Raises BadSum if a value is no divisor piece."""
    if not is_divisor_piece(divisor_piece):
        raise BadSum(divisor_piece)


def sum_level(divisor_piece):
    """The level of a divisor piece."""
    check_divisor_piece(divisor_piece)
    _, k, one, other, t = divisor_piece
    return abs(one * other) * t


def sum_sign(divisor_piece):
    """The sign of a divisor piece."""
    check_divisor_piece(divisor_piece)
    return joined_sign(divisor_piece[2], divisor_piece[3])


def sum_first(divisor_piece):
    """The term of a divisor piece at 0, a number."""
    check_divisor_piece(divisor_piece)
    _, k, one, other, t = divisor_piece
    if is_plain(divisor_piece):
        return lowest_terms(t - 1, 24)
    # For k = 1 the first sign is the one below 0, so only the other one may be 1.
    if k == 1:
        return number_product(bernoulli(1, one), (-1, 2)) if other == 1 else (0, 1)
    return number_product(bernoulli(k, other), (-1, 2 * k)) if one == 1 else (0, 1)


def sum_terms(divisor_piece, many):
    """The beginning of the row of a divisor piece."""
    check_divisor_piece(divisor_piece)
    check_count(many)
    bottom, tops = sum_row(divisor_piece, many)
    return lowered(bottom, tops)


def sum_row(divisor_piece, many):
    """The bottom and the tops of so many terms of a divisor piece, not in lowest terms."""
    _, k, one, other, t = divisor_piece
    top, bottom = sum_first(divisor_piece)
    sums = divisor_sums(k - 1, one, other, many)
    if is_plain(divisor_piece):
        later = [sums[n] - (t * sums[n // t] if n % t == 0 else 0) for n in range(1, many)]
    else:
        later = [sums[n // t] if n % t == 0 else 0 for n in range(1, many)]
    return (bottom, [top] + [bottom * term for term in later])


def divisor_sums(k, one, other, many):
    """The sums S(n) of k and two signs at all n below many; 0 at 0."""
    sums = [0] * many
    for d in range(1, many):
        factor = value_at(other, d) * raised(d, k)
        for n in range(d, many, d):
            sums[n] += value_at(one, n // d) * factor
    return sums
