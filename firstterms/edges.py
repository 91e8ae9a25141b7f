"""The edges of levels."""
from math import gcd

from firstterms.checks import check_level
from firstterms.integers import divisors


def index_of(level):
    """The index of a level."""
    # The widths of all edges have the index as their sum, so no prime divisors are needed.
    return sum([many * width for c, many, width in edges_of(level)])


def edges_of(level):
    """The ascending tuple of the triples (c, how many edges of c, width), one for each divisor c of a level."""
    check_level(level)
    return tuple([(c, how_many_edges(level, c), level // gcd(c * c, level)) for c in divisors(level)])


def how_many_edges(level, c):
    """How many edges of c a level has."""
    common = gcd(c, level // c)
    return len([x for x in range(1, common + 1) if gcd(x, common) == 1])
