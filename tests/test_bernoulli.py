"""Point 1.6: Bernoulli's numbers."""
from fractions import Fraction
from math import comb

from firstterms.bernoulli import bernoulli
from firstterms.errors import BadNumber, BadSign
from tests.helpers import HUGE, NO_INTEGERS, NO_SIGNS, SIGNS, CallCase, pair, told_value


def plain_numbers(most):
    """b_0 to b_most, by the sums of point 1.6."""
    numbers = []
    for k in range(most + 1):
        rest = sum([comb(k + 1, i) * numbers[i] for i in range(k)], Fraction(0))
        numbers.append(Fraction(1) if k == 0 else -rest / (k + 1))
    return numbers


PLAIN = plain_numbers(24)


def polynomial_at(k, x):
    return sum([comb(k, i) * PLAIN[i] * x ** (k - i) for i in range(k + 1)], Fraction(0))


def told_bernoulli(k, sign):
    f = abs(sign)
    total = sum([told_value(sign, a) * polynomial_at(k, Fraction(a, f)) for a in range(1, f + 1)], Fraction(0))
    return pair(Fraction(f) ** (k - 1) * total)


class BernoulliTest(CallCase):
    def test_examples(self):
        self.assertEqual(
            [bernoulli(2, 1), bernoulli(12, 1), bernoulli(1, -4), bernoulli(3, -4), bernoulli(2, 5),
             bernoulli(1, 1), bernoulli(3, 1)],
            [(1, 6), (-691, 2730), (-1, 2), (3, 2), (4, 5), (1, 2), (0, 1)])

    def test_by_the_polynomials(self):
        for sign in (1, -3, -4, 5, -7, 8, -8, 12, 17, -24, 57, -59, 60):
            for k in range(25):
                self.gives(told_bernoulli(k, sign), bernoulli, k, sign)

    def test_all_signs_up_to_sixty(self):
        for sign in SIGNS:
            if abs(sign) <= 60:
                for k in (0, 1, 2, 11, 24):
                    self.assertEqual(bernoulli(k, sign), told_bernoulli(k, sign))

    def test_edges(self):
        self.gives((1, 1), bernoulli, 0, 1)
        self.gives((0, 1), bernoulli, 0, 60)
        self.gives((0, 1), bernoulli, 0, -59)
        self.gives((0, 1), bernoulli, 23, 60)
        self.gives((-236364091, 2730), bernoulli, 24, 1)

    def test_where_it_is_nought(self):
        for sign in (1, 5, 8, -3, -4, 60, -59):
            for k in range(25):
                if told_value(sign, -1) != (-1) ** k and (k, sign) != (1, 1):
                    self.gives((0, 1), bernoulli, k, sign)

    def test_wrong_values(self):
        for thing in NO_INTEGERS + (-1, 25, HUGE, -HUGE, (2, 1)):
            self.refuses_thing(BadNumber, thing, bernoulli, thing, 1)
        for thing in NO_SIGNS:
            self.refuses_thing(BadSign, thing, bernoulli, 2, thing)

    def test_which_error_comes_first(self):
        self.refuses_thing(BadNumber, 25, bernoulli, 25, 2)
        self.refuses_thing(BadNumber, True, bernoulli, True, True)
        self.refuses_thing(BadSign, 2, bernoulli, 24, 2)
