"""Reckoning with numbers: pairs (top, bottom) that stand for fractions."""
from math import gcd, lcm

from firstterms.checks import is_number


def lowest_terms(top, bottom):
    """The number that stands for top / bottom, in lowest terms, for a bottom from 1 on."""
    common = gcd(top, bottom)
    return (top // common, bottom // common)


def quotient(top, bottom):
    """The number that stands for top / bottom, in lowest terms, for a bottom that is not 0."""
    return lowest_terms(top, bottom) if bottom > 0 else lowest_terms(-top, -bottom)


def number_sum(one, other):
    """The sum of two numbers."""
    return lowest_terms(one[0] * other[1] + other[0] * one[1], one[1] * other[1])


def number_product(one, other):
    """The product of two numbers."""
    return lowest_terms(one[0] * other[0], one[1] * other[1])


def is_same_number(thing, number):
    """Whether any value is a number that is equal to this one."""
    return is_number(thing) and thing[0] * number[1] == number[0] * thing[1]


def are_same_numbers(thing, numbers):
    """Whether any value is a tuple of numbers that are equal to these, one by one."""
    if not isinstance(thing, tuple) or len(thing) != len(numbers):
        return False
    return all([is_same_number(one, other) for one, other in zip(thing, numbers)])


def common_multiple(integers):
    """The least common multiple of integers from 1 on."""
    result = 1
    for integer in integers:
        result = lcm(result, integer)
    return result


def raised(base, exponent):
    """An integer to the power of an integer from 0 on."""
    result = 1
    square = base
    while exponent > 0:
        if exponent % 2 == 1:
            result = result * square
        square = square * square
        exponent = exponent // 2
    return result
