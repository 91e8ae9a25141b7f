"""Signs and their values."""
from math import isqrt

from firstterms.checks import check_integer, is_between, is_integer
from firstterms.errors import BadNumber, BadSign


def is_sign(thing):
    """Whether any value is a sign."""
    # An integer of one of the kinds makes a square with itself, so it is its own sign, and nothing else is.
    return is_between(thing, -400, 400) and thing != 0 and any_sign_of(thing) == thing


def check_sign(sign):
    """Raises BadSign if a value is no sign."""
    if not is_sign(sign):
        raise BadSign(sign)


def sign_at(sign, n):
    """The value of a sign at an integer: 1, 0 or -1."""
    check_sign(sign)
    check_integer(n)
    return value_at(sign, n)


def value_at(sign, n):
    """The value at n of an integer of the kinds of signs, for callers that have checked both."""
    # The remainder decides, and it is small however great n is.
    rest = n % abs(sign)
    if rest == 0:
        return 1 if sign == 1 else 0
    value = 1
    while rest % 2 == 0:
        rest = rest // 2
        value = value * value_at_two(sign)
    return value * value_at_odd(sign, rest)


def value_at_two(sign):
    """The value of a sign at 2."""
    if sign % 2 == 0:
        return 0
    return 1 if sign % 8 == 1 else -1


def value_at_odd(top, bottom):
    """The value of top at an odd integer from 1 on, by reciprocity, which needs no prime divisors."""
    value = 1
    top = top % bottom
    while top != 0:
        while top % 2 == 0:
            top = top // 2
            if bottom % 8 == 3 or bottom % 8 == 5:
                value = -value
        if top % 4 == 3 and bottom % 4 == 3:
            value = -value
        top, bottom = bottom % top, top
    return value if bottom == 1 else 0


def sign_of(m):
    """The sign of an integer that is not 0 and at most 100,000 from 0."""
    if not is_integer(m) or m == 0 or abs(m) > 100000:
        raise BadNumber(m)
    return any_sign_of(m)


def any_sign_of(m):
    """The sign of an integer that is not 0, of any size."""
    bare = without_squares(m)
    return bare if bare % 4 == 1 else 4 * bare


def without_squares(m):
    """The integer that no square above 1 divides, and that makes a square with m, which is not 0."""
    rest = abs(m)
    bare = 1 if m > 0 else -1
    p = 2
    while p * p * p <= rest:
        while rest % (p * p) == 0:
            rest = rest // (p * p)
        if rest % p == 0:
            rest = rest // p
            bare = bare * p
        p += 1
    # No three primes are left, so the rest has a square above 1 only if it is one.
    root = isqrt(rest)
    return bare if root * root == rest else bare * rest


def joined_sign(one, other):
    """The sign of the product of two signs."""
    check_sign(one)
    check_sign(other)
    return any_sign_of(one * other)
