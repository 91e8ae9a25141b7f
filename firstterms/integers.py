"""Divisors, and sums over them."""
from math import isqrt

from firstterms.checks import check_from
from firstterms.numberpairs import raised
from firstterms.signs import check_sign, value_at


def divisors(n):
    """The ascending tuple of the divisors of an integer from 1 on."""
    check_from(n, 1)
    low = [d for d in range(1, isqrt(n) + 1) if n % d == 0]
    high = [n // d for d in reversed(low) if d * d != n]
    return tuple(low + high)


def divisor_sum(n, k, one, other):
    """The sum over all divisors d of n of one[n / d] other[d] d ** k, for two signs."""
    check_from(n, 1)
    check_from(k, 0)
    check_sign(one)
    check_sign(other)
    total = 0
    for d in divisors(n):
        total += value_at(one, n // d) * value_at(other, d) * raised(d, k)
    return total
