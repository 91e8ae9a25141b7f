"""Bernoulli's numbers of signs."""
from math import comb

from firstterms.checks import check_between
from firstterms.numberpairs import number_product, number_sum, raised
from firstterms.signs import check_sign, value_at


def bernoulli(k, sign):
    """Bernoulli's number of an integer k from 0 to 24 and a sign, in lowest terms."""
    check_between(k, 0, 24)
    check_sign(sign)
    size = abs(sign)
    total = (0, 1)
    # The sums over a and over i are exchanged, so that fractions come in only once for each i.
    for i, plain in enumerate(plain_numbers(k)):
        top = comb(k, i) * raised(size, i) * power_sum(sign, k - i)
        total = number_sum(total, number_product(plain, (top, size)))
    return total


def plain_numbers(k):
    """The numbers b_0 to b_k."""
    numbers = [(1, 1)]
    for n in range(1, k + 1):
        total = (0, 1)
        for i, plain in enumerate(numbers):
            total = number_sum(total, number_product(plain, (comb(n + 1, i), 1)))
        numbers.append(number_product(total, (-1, n + 1)))
    return numbers


def power_sum(sign, e):
    """The sum of the value at a times a ** e over all a from 1 to the sign without its sign."""
    total = 0
    for a in range(1, abs(sign) + 1):
        total += value_at(sign, a) * raised(a, e)
    return total
