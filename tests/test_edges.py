"""Point 4.1: levels, their indexes and edges."""
from fractions import Fraction
from math import gcd

from firstterms.edges import edges_of, index_of
from firstterms.errors import BadLevel
from tests.helpers import NO_LEVELS, CallCase, prime_divisors


def told_index(level):
    """The product over all primes, as it is written."""
    index = Fraction(level)
    for p in set(prime_divisors(level)):
        index *= 1 + Fraction(1, p)
    return int(index)


def lines(level):
    """All pairs of remainders that have no common divisor with the level, each with all its multiples as one line."""
    units = [u for u in range(1, level + 1) if gcd(u, level) == 1]
    line_of = {}
    for a in range(level):
        for b in range(level):
            if gcd(gcd(a, b), level) == 1 and (a, b) not in line_of:
                for u in units:
                    line_of[(u * a % level, u * b % level)] = (a, b)
    return line_of


def counted_edges(level):
    """The edges, counted: lines that (a, b) -> (a, b + a) leads to one another make one edge, as wide as they are many."""
    line_of = lines(level)
    found = {}
    left = set(line_of.values())
    while left:
        start = min(left)
        width, (a, b) = 0, start
        while line_of[(a, b)] in left:
            left.discard(line_of[(a, b)])
            width += 1
            b = (a + b) % level
        found.setdefault(gcd(start[0], level), []).append(width)
    return found


class EdgesTest(CallCase):
    def test_examples(self):
        self.assertEqual([index_of(1), index_of(4), index_of(12)], [1, 6, 24])
        self.gives(((1, 1, 4), (2, 1, 1), (4, 1, 1)), edges_of, 4)
        self.gives(((1, 1, 9), (3, 2, 1), (9, 1, 1)), edges_of, 9)

    def test_index_of_all_levels(self):
        for level in range(1, 401):
            self.gives(told_index(level), index_of, level)

    def test_by_the_words(self):
        for level in range(1, 401):
            expected = []
            for c in range(1, level + 1):
                if level % c == 0:
                    g = gcd(c, level // c)
                    many = sum([1 for x in range(1, g + 1) if gcd(x, g) == 1])
                    expected.append((c, many, level // gcd(c * c, level)))
            self.gives(tuple(expected), edges_of, level)

    def test_by_counting(self):
        for level in list(range(1, 25)) + [27, 32, 36]:
            found = counted_edges(level)
            self.assertEqual(index_of(level), len(set(lines(level).values())))
            edges = edges_of(level)
            self.assertEqual([c for c, many, width in edges], sorted(found))
            for c, many, width in edges:
                self.assertEqual([width] * many, found[c], (level, c))

    def test_widths_add_up(self):
        for level in range(1, 401):
            self.assertEqual(sum([many * width for c, many, width in edges_of(level)]), told_index(level))

    def test_edges(self):
        self.gives(1, index_of, 1)
        self.gives(((1, 1, 1),), edges_of, 1)
        self.gives(720, index_of, 400)
        self.assertIn((20, 8, 1), edges_of(400))
        self.assertIn((40, 4, 1), edges_of(400))
        self.gives(((1, 1, 397), (397, 1, 1)), edges_of, 397)

    def test_wrong_levels(self):
        for thing in NO_LEVELS:
            self.refuses_thing(BadLevel, thing, index_of, thing)
            self.refuses_thing(BadLevel, thing, edges_of, thing)
