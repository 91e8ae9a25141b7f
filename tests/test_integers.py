"""Points 1.1 and 1.5: divisors and sums over them."""
from math import gcd

from firstterms.errors import BadNumber, BadSign
from firstterms.integers import divisor_sum, divisors
from tests.helpers import HUGE, NO_INTEGERS, NO_SIGNS, SIGNS, CallCase, told_value


def told_divisors(n):
    return [d for d in range(1, n + 1) if n % d == 0]


def told_sum(n, k, one, other):
    return sum([told_value(one, n // d) * told_value(other, d) * d ** k for d in told_divisors(n)])


class DivisorsTest(CallCase):
    def test_examples(self):
        self.assertEqual(divisors(12), (1, 2, 3, 4, 6, 12))

    def test_by_trying_each(self):
        for n in list(range(1, 300)) + [961, 1024, 2520, 9973, 9999]:
            self.gives(tuple(told_divisors(n)), divisors, n)

    def test_edges(self):
        self.gives((1,), divisors, 1)
        self.gives((1, 2), divisors, 2)
        for n in (83160, 99856, 99991, 99999, 100000):
            self.gives(tuple(told_divisors(n)), divisors, n)
        self.assertEqual(len(divisors(100000)), 36)

    def test_wrong_values(self):
        for thing in NO_INTEGERS + (0, -1, -12, -HUGE, (12, 1)):
            self.refuses_thing(BadNumber, thing, divisors, thing)


class DivisorSumTest(CallCase):
    def test_examples(self):
        self.assertEqual(
            [divisor_sum(6, 1, 1, 1), divisor_sum(5, 0, 1, -4), divisor_sum(6, 2, -4, 1)], [12, 2, 32])

    def test_by_the_definition(self):
        for n in list(range(1, 41)) + [96, 360, 1001]:
            for k in (0, 1, 2, 7, 24):
                for one, other in ((1, 1), (1, -4), (-4, 1), (5, -3), (-3, 5), (8, 8), (-7, -7), (-400 + 1, 397)):
                    self.gives(told_sum(n, k, one, other), divisor_sum, n, k, one, other)

    def test_which_sign_goes_with_which_divisor(self):
        self.gives(1 - 9, divisor_sum, 3, 2, 1, -4)
        self.gives(-1 + 9, divisor_sum, 3, 2, -4, 1)

    def test_all_signs(self):
        for sign in SIGNS:
            self.assertEqual(divisor_sum(60, 3, 1, sign), told_sum(60, 3, 1, sign))
            self.assertEqual(divisor_sum(60, 3, sign, -3), told_sum(60, 3, sign, -3))

    def test_products(self):
        for m, n in ((4, 9), (8, 15), (7, 100), (32, 3125)):
            self.assertEqual(gcd(m, n), 1)
            for k, one, other in ((0, 1, 1), (3, 5, -4), (24, -3, 8)):
                left = divisor_sum(m, k, one, other) * divisor_sum(n, k, one, other)
                self.gives(left, divisor_sum, m * n, k, one, other)

    def test_edges(self):
        self.gives(1, divisor_sum, 1, 0, 1, 1)
        self.gives(1, divisor_sum, 1, 24, -4, 397)
        self.gives(0, divisor_sum, 2, 5, -4, 8)
        self.gives(told_sum(100000, 24, 1, 1), divisor_sum, 100000, 24, 1, 1)
        self.gives(told_sum(83160, 24, -7, 5), divisor_sum, 83160, 24, -7, 5)
        self.gives(1 + 99991 ** 24, divisor_sum, 99991, 24, 1, 1)

    def test_wrong_values(self):
        for thing in NO_INTEGERS + ((6, 1), -1, -HUGE):
            self.refuses_thing(BadNumber, thing, divisor_sum, thing, 1, 1, 1)
            self.refuses_thing(BadNumber, thing, divisor_sum, 6, thing, 1, 1)
        self.refuses_thing(BadNumber, 0, divisor_sum, 0, 1, 1, 1)
        for thing in NO_SIGNS:
            self.refuses_thing(BadSign, thing, divisor_sum, 6, 1, thing, 1)
            self.refuses_thing(BadSign, thing, divisor_sum, 6, 1, 1, thing)

    def test_which_error_comes_first(self):
        self.refuses_thing(BadNumber, 0, divisor_sum, 0, -1, 2, 3)
        self.refuses_thing(BadNumber, "n", divisor_sum, "n", None, [], ())
        self.refuses_thing(BadNumber, -1, divisor_sum, 6, -1, 2, 3)
        self.refuses_thing(BadNumber, True, divisor_sum, 6, True, None, None)
        self.refuses_thing(BadSign, 2, divisor_sum, 6, 1, 2, 3)
        self.refuses_thing(BadSign, True, divisor_sum, 6, 1, True, False)
        self.refuses_thing(BadSign, 3, divisor_sum, 6, 1, 1, 3)
