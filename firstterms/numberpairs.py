"""Reckoning with numbers: pairs (top, bottom) that stand for fractions."""
from math import gcd


def lowest_terms(top, bottom):
    """The number that stands for top / bottom, in lowest terms, for a bottom from 1 on."""
    common = gcd(top, bottom)
    return (top // common, bottom // common)


def number_sum(one, other):
    """The sum of two numbers."""
    return lowest_terms(one[0] * other[1] + other[0] * one[1], one[1] * other[1])


def number_product(one, other):
    """The product of two numbers."""
    return lowest_terms(one[0] * other[0], one[1] * other[1])


def raised(base, exponent):
    """An integer to the power of an integer from 0 on."""
    result = 1
    square = base
    while exponent > 0:
        if exponent % 2 == 1:
            result = result * square
        square = square * square
        exponent = exponent // 2
    return result
