"""Beginnings of rows, and what is done with them."""
from math import gcd

from firstterms.checks import check_between, check_from, check_integer, check_number, is_from, is_integer
from firstterms.errors import BadBeginning, DividedByZero
from firstterms.numberpairs import lowest_terms, raised
from firstterms.signs import check_sign, value_at


def is_beginning(thing):
    """Whether any value is a beginning (bottom, tops), in any terms."""
    if not isinstance(thing, tuple) or len(thing) != 2:
        return False
    bottom, tops = thing
    if not is_from(bottom, 1) or not isinstance(tops, tuple):
        return False
    return 1 <= len(tops) <= 400 and all([is_integer(top) for top in tops])


def check_beginning(beginning):
    """Raises BadBeginning if a value is no beginning."""
    if not is_beginning(beginning):
        raise BadBeginning(beginning)


def lowered(bottom, tops):
    """The beginning with the terms top / bottom, in lowest terms; bottom may be below 0, but is not 0."""
    common = abs(bottom)
    for top in tops:
        if common == 1:
            break
        common = gcd(common, top)
    if bottom < 0:
        common = -common
    return (bottom // common, tuple([top // common for top in tops]))


def term_at(beginning, n):
    """The term of a beginning at n, a number."""
    check_beginning(beginning)
    bottom, tops = beginning
    check_between(n, 0, len(tops) - 1)
    return lowest_terms(tops[n], bottom)


def added(one, other):
    """The sum of two beginnings."""
    check_beginning(one)
    check_beginning(other)
    tops = [a * other[0] + b * one[0] for a, b in zip(one[1], other[1])]
    return lowered(one[0] * other[0], tops)


def multiplied(one, other):
    """The product of two beginnings."""
    check_beginning(one)
    check_beginning(other)
    return lowered(one[0] * other[0], product_tops(one[1], other[1]))


def product_tops(one, other):
    """The terms of the product of two rows of integers, as far as both go."""
    many = min(len(one), len(other))
    return [sum([one[i] * other[n - i] for i in range(n + 1)]) for n in range(many)]


def times(beginning, number):
    """A beginning times a number."""
    check_beginning(beginning)
    check_number(number)
    bottom, tops = beginning
    return lowered(bottom * number[1], [top * number[0] for top in tops])


def power(beginning, k):
    """The power of a beginning with any integer k."""
    check_beginning(beginning)
    check_integer(k)
    bottom, tops = beginning
    if k >= 0:
        return lowered(raised(bottom, k), power_tops(tops, k))
    if tops[0] == 0:
        raise DividedByZero()
    lowest_bottom, lowest_tops = lowered(bottom, tops)
    return power_below(lowest_bottom, lowest_tops, k)


def power_tops(tops, k):
    """The power of a row of integers with an integer k from 0 on."""
    result = [1] + [0] * (len(tops) - 1)
    square = list(tops)
    while k > 0:
        if k % 2 == 1:
            result = product_tops(result, square)
        k = k // 2
        if k > 0:
            square = product_tops(square, square)
    return result


def power_below(bottom, tops, k):
    """The power with an integer k below 0 of a beginning whose first term is not 0."""
    first = tops[0]
    last = len(tops) - 1
    # With first * q in the place of q and over its first term the row has integers alone, and so have its powers.
    made = power_of_one([1] + [tops[i] * raised(first, i - 1) for i in range(1, last + 1)], k)
    factor = raised(bottom, -k)
    result = [made[n] * factor * raised(first, last - n) for n in range(last + 1)]
    return lowered(raised(first, last - k), result)


def power_of_one(tops, k):
    """The power of a row of integers that begins with 1, with any integer k."""
    result = [1]
    # A power p of f has f times the slope of p equal to k times p times the slope of f; this tells term by term.
    for n in range(1, len(tops)):
        total = sum([(k * i - n + i) * tops[i] * result[n - i] for i in range(1, n + 1)])
        result.append(total // n)
    return result


def spread(beginning, d):
    """The spread of a beginning by an integer d from 1 on."""
    check_beginning(beginning)
    check_from(d, 1)
    bottom, tops = beginning
    return lowered(bottom, [tops[n // d] if n % d == 0 else 0 for n in range(len(tops))])


def every(beginning, d):
    """Every d-th term of a beginning, for an integer d from 1 on."""
    check_beginning(beginning)
    check_from(d, 1)
    bottom, tops = beginning
    return lowered(bottom, [tops[n] for n in range(len(tops)) if n % d == 0])


def twisted(beginning, sign):
    """A beginning twisted by a sign."""
    check_beginning(beginning)
    check_sign(sign)
    bottom, tops = beginning
    return lowered(bottom, [value_at(sign, n) * top for n, top in enumerate(tops)])


def shifted(beginning, s):
    """A beginning behind s terms 0."""
    check_beginning(beginning)
    check_between(s, 0, 280)
    bottom, tops = beginning
    return lowered(bottom, [0] * s + list(tops))


def first_apart(one, other):
    """The least n at which both beginnings have terms and these are unlike; None if there is none."""
    check_beginning(one)
    check_beginning(other)
    for n in range(min(len(one[1]), len(other[1]))):
        if one[1][n] * other[0] != other[1][n] * one[0]:
            return n
    return None
