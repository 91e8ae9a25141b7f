"""Points 2.1 and 2.2: beginnings, and what is done with them."""
from fractions import Fraction

from firstterms.beginnings import (
    added, every, first_apart, is_beginning, multiplied, power, shifted, spread, term_at, times, twisted)
from firstterms.errors import BadBeginning, BadNumber, BadSign, DividedByZero
from tests.helpers import (
    HUGE, NO_BEGINNINGS, NO_INTEGERS, NO_NUMBERS, NO_SIGNS, SIGNS, CallCase, beginning_of, fractions_of, is_lowest,
    multiplied_out, pair, told_value)

ONES = (1, (1, 1, 1, 1, 1, 1))
GREAT = 10 ** 30 - 1


def mixed(many, bottom, seed=1, size=1000):
    """A beginning with terms of both kinds and some 0, told by remainders."""
    tops = [seed * (n + 3) ** 5 % (2 * size + 1) - size for n in range(many)]
    return (bottom, tuple([0 if top % 7 == 3 else top for top in tops]))


def great(many, first, seed=1):
    """A beginning with integers of 30 digits behind a first one."""
    tops = [seed * (n + 17) ** 23 * 987654321987654321987 % (2 * GREAT + 1) - GREAT for n in range(1, many)]
    return (1, (first,) + tuple(tops))


SOME = (
    (1, (0,)), (1, (5,)), (7, (0, 0)), (6, (4, 2, 8)), ONES, (2, (2, 2, 3)), (10, (-5, 0, 25, 10)), (3, (1, -1, 0, 0, 2)),
    mixed(12, 30), mixed(20, 1, 3), mixed(9, GREAT, 5, GREAT), (12, (0, 0, 6, -18, 0, 24)),
)


class IsBeginningTest(CallCase):
    def test_examples(self):
        self.gives(False, is_beginning, (0, (1,)))

    def test_ordinary(self):
        for thing in SOME + ((4, (2, 2)), (HUGE, (HUGE, -HUGE)), mixed(120, 5)):
            self.gives(True, is_beginning, thing)

    def test_edges(self):
        self.gives(True, is_beginning, (1, (0,)))
        self.gives(False, is_beginning, (1, ()))
        self.gives(True, is_beginning, (1, (1,) * 400))
        self.gives(False, is_beginning, (1, (1,) * 401))

    def test_wrong_values(self):
        for thing in NO_BEGINNINGS:
            self.gives(False, is_beginning, thing)


class WrongBeginningTest(CallCase):
    def test_ahead_of_all_other_errors(self):
        for thing in NO_BEGINNINGS:
            for function in (term_at, times, power, spread, every, twisted, shifted):
                self.refuses_thing(BadBeginning, thing, function, thing, 1)
                self.refuses_thing(BadBeginning, thing, function, thing, None)
            for function in (added, multiplied, first_apart):
                self.refuses_thing(BadBeginning, thing, function, thing, ONES)
                self.refuses_thing(BadBeginning, thing, function, ONES, thing)
                self.refuses_thing(BadBeginning, thing, function, thing, "other")


class TermTest(CallCase):
    def test_examples(self):
        self.gives((2, 3), term_at, (6, (1, 4)), 1)

    def test_all_terms(self):
        for beginning in SOME:
            for n, term in enumerate(fractions_of(beginning)):
                self.gives(pair(term), term_at, beginning, n)

    def test_edges(self):
        self.gives((0, 1), term_at, (9, (0,)), 0)
        self.gives((-1, 2), term_at, (4, (0, -2)), 1)
        self.gives((7, 1), term_at, (1, (0,) * 399 + (7,)), 399)

    def test_wrong_values(self):
        for thing in NO_INTEGERS + (-1, 6, 7, -6, HUGE, -HUGE, (0, 1)):
            self.refuses_thing(BadNumber, thing, term_at, ONES, thing)
        self.refuses_thing(BadNumber, 400, term_at, (1, (0,) * 400), 400)


class TwoTest(CallCase):
    def test_examples(self):
        self.gives((1, (1, 2)), added, (2, (1, 3)), (2, (1, 1, 7)))
        self.gives((1, (1, 2, 3, 4, 5, 6)), multiplied, ONES, ONES)
        self.gives(2, first_apart, ONES, (2, (2, 2, 3)))

    def test_sums_and_products(self):
        for one in SOME:
            for other in SOME:
                a, b = fractions_of(one), fractions_of(other)
                self.gives(beginning_of([x + y for x, y in zip(a, b)]), added, one, other)
                self.gives(beginning_of(multiplied_out(a, b)), multiplied, one, other)

    def test_lowest_terms(self):
        self.gives((1, (0, 0)), added, (6, (2, 4)), (3, (-1, -2)))
        self.gives((1, (0,)), multiplied, (6, (5,)), (35, (0,)))
        self.gives((1, (1,)), multiplied, (6, (10,)), (10, (6,)))
        self.gives((2, (1, 0)), added, (4, (1, 1)), (4, (1, -1)))

    def test_limits(self):
        one, other = great(120, -GREAT), great(120, 1, 3)
        terms = multiplied_out(list(one[1]), list(other[1]))
        self.gives((1, tuple(terms)), multiplied, one, other)
        self.gives((1, tuple([a + b for a, b in zip(one[1], other[1])])), added, one, other)
        below, lower = (GREAT, one[1]), (GREAT - 1, other[1])
        self.gives(beginning_of(multiplied_out(fractions_of(below), fractions_of(lower))), multiplied, below, lower)
        self.gives(beginning_of([a + b for a, b in zip(fractions_of(below), fractions_of(lower))]), added, below, lower)

    def test_first_apart(self):
        for one in SOME:
            for other in SOME:
                apart = [n for n, (a, b) in enumerate(zip(fractions_of(one), fractions_of(other))) if a != b]
                self.gives(min(apart, default=None), first_apart, one, other)
        self.gives(None, first_apart, (2, (4, 6)), (3, (6, 9, 1)))
        self.gives(0, first_apart, (2, (4, 6)), (3, (4, 6)))
        self.gives(119, first_apart, great(120, 1), (1, great(120, 1)[1][:119] + (5,)))


class TimesTest(CallCase):
    def test_examples(self):
        self.gives((3, (1, 2)), times, (1, (2, 4)), (1, 6))

    def test_by_fractions(self):
        for beginning in SOME:
            for number in ((0, 1), (0, 9), (1, 1), (-1, 1), (4, 6), (-30, 14), (GREAT, GREAT - 1), (6, 3)):
                terms = [term * Fraction(*number) for term in fractions_of(beginning)]
                self.gives(beginning_of(terms), times, beginning, number)

    def test_wrong_values(self):
        for thing in NO_NUMBERS:
            self.refuses_thing(BadNumber, thing, times, ONES, thing)


class PowerTest(CallCase):
    def told(self, beginning, k):
        """By repeated products, k from 0 on."""
        terms = fractions_of(beginning)
        result = [Fraction(1)] + [Fraction(0)] * (len(terms) - 1)
        for _ in range(k):
            result = multiplied_out(result, terms)
        return result

    def test_examples(self):
        self.gives((1, (1, -1, 0, 0, 0, 0)), power, ONES, -1)

    def test_repeated_products(self):
        for beginning in SOME:
            for k in (0, 1, 2, 3, 5, 8, 24):
                self.gives(beginning_of(self.told(beginning, k)), power, beginning, k)

    def test_below_nought(self):
        for beginning in SOME + ((4, (4, 1, 6)), (4, (-4, 1, 6)), (3, (-3, 0, 2, 9)), (5, (2, 3, 4))):
            if beginning[1][0] != 0:
                one = [Fraction(1)] + [Fraction(0)] * (len(beginning[1]) - 1)
                for k in (-1, -2, -3, -7, -24):
                    got = power(beginning, k)
                    self.assertTrue(is_lowest(got))
                    self.assertEqual(multiplied_out(self.told(beginning, -k), fractions_of(got)), one)
                    self.gives(got, power, beginning, k)

    def test_edges(self):
        self.gives((1, (1, 0, 0)), power, (5, (0, 0, 3)), 0)
        self.gives((1, (0, 0, 0)), power, (5, (0, 0, 3)), 2)
        self.gives((1, (1,)), power, (1, (-1,)), 24)
        self.gives((1, (-1,)), power, (1, (-1,)), -23)
        self.gives((1, (1, 24)), power, (1, (-1, 1)), -24)
        self.gives((1, (0,) * 24 + (1,)), power, (1, (0, 1) + (0,) * 23), 24)
        self.gives((32, (32, -16, 8, -4, 2, -1)), power, (2, (2, 1, 0, 0, 0, 0)), -1)

    def test_limits(self):
        for first in (1, -1):
            beginning = great(120, first)
            terms = list(beginning[1])
            square = multiplied_out(terms, terms)
            eighth = multiplied_out(multiplied_out(square, square), multiplied_out(square, square))
            last = multiplied_out(multiplied_out(eighth, eighth), eighth)
            self.gives((1, tuple(last)), power, beginning, 24)
            undone = power(beginning, -24)
            self.assertEqual(undone[0], 1)
            self.assertEqual(multiplied_out(last, list(undone[1])), [1] + [0] * 119)

    def test_limits_over_a_great_bottom(self):
        beginning = (GREAT, (-GREAT,) + great(120, 1)[1][1:])
        got = power(beginning, -24)
        self.assertTrue(is_lowest(got))
        back = multiplied(got, power(beginning, 24))
        self.assertEqual(back, (1, (1,) + (0,) * 119))

    def test_wrong_values(self):
        for thing in NO_INTEGERS + ((1, 1),):
            self.refuses_thing(BadNumber, thing, power, ONES, thing)
            self.refuses_thing(BadNumber, thing, power, (1, (0, 1)), thing)
        for k in (-1, -24):
            self.refuses(DividedByZero, {}, power, (1, (0, 1)), k)
            self.refuses(DividedByZero, {}, power, (3, (0,)), k)


class PlacesTest(CallCase):
    def test_examples(self):
        self.gives((1, (1, 0, 2, 0)), spread, (1, (1, 2, 3, 4)), 2)
        self.gives((1, (0, 2, 4)), every, (1, (0, 1, 2, 3, 4, 5)), 2)
        self.gives((1, (0, 1, 0, -1, 0)), twisted, (1, (5, 1, 1, 1, 1)), -4)

    def test_spread_and_every(self):
        for beginning in SOME:
            terms = fractions_of(beginning)
            for d in (1, 2, 3, 4, 7, 12, 13, 10 ** 39 + 1):
                apart = [terms[n // d] if n in range(0, len(terms), d) else Fraction(0) for n in range(len(terms))]
                self.gives(beginning_of(apart), spread, beginning, d)
                self.gives(beginning_of(terms[::d]), every, beginning, d)

    def test_spread_and_every_at_the_limits(self):
        beginning = great(120, GREAT)
        self.gives(beginning, spread, beginning, 1)
        self.gives(beginning, every, beginning, 1)
        self.gives((1, (GREAT,) + (0,) * 119), spread, beginning, 120)
        self.gives((1, (GREAT,) + (0,) * 118 + (beginning[1][1],)), spread, beginning, 119)
        self.gives((1, (GREAT, beginning[1][119])), every, beginning, 119)
        self.gives((1, (GREAT,)), every, beginning, 120)
        self.gives((1, (2,)), every, (3, (6, 1, 1)), 10 ** 39)
        self.gives((1, (2, 0, 0)), spread, (3, (6, 1, 1)), 10 ** 39)

    def test_twisted(self):
        for beginning in SOME:
            for sign in (1, -3, -4, 5, 8, 12, -399, 397):
                terms = [told_value(sign, n) * term for n, term in enumerate(fractions_of(beginning))]
                self.gives(beginning_of(terms), twisted, beginning, sign)
        beginning = great(120, GREAT)
        for sign in SIGNS[::5]:
            terms = [told_value(sign, n) * top for n, top in enumerate(beginning[1])]
            self.assertEqual(twisted(beginning, sign), (1, tuple(terms)))

    def test_shifted(self):
        for beginning in SOME:
            for s in (0, 1, 5, 280):
                self.gives(beginning_of([Fraction(0)] * s + fractions_of(beginning)), shifted, beginning, s)
        beginning = great(120, GREAT)
        self.gives((1, (0,) * 280 + beginning[1]), shifted, beginning, 280)
        self.gives((1, (0, 2)), shifted, (2, (4,)), 1)

    def test_wrong_values(self):
        for thing in NO_INTEGERS + (0, -1, -HUGE, (1, 1)):
            self.refuses_thing(BadNumber, thing, spread, ONES, thing)
            self.refuses_thing(BadNumber, thing, every, ONES, thing)
        for thing in NO_INTEGERS + (-1, 281, HUGE, -HUGE, (1, 1)):
            self.refuses_thing(BadNumber, thing, shifted, ONES, thing)
        for thing in NO_SIGNS:
            self.refuses_thing(BadSign, thing, twisted, ONES, thing)
