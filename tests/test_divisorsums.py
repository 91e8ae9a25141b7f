"""Points 5.1 and 5.2: divisor pieces and their rows."""
from fractions import Fraction

from firstterms.beginnings import spread
from firstterms.divisorsums import is_divisor_piece, sum_first, sum_level, sum_sign, sum_terms
from firstterms.errors import BadCount, BadSum
from tests.helpers import (
    HUGE, NO_COUNTS, NO_INTEGERS, NO_SIGNS, SIGNS, CallCase, beginning_of, is_int, is_lowest, pair, spoiled, told_sign,
    told_value)
from tests.test_bernoulli import told_bernoulli
from tests.test_integers import told_divisors, told_sum
from tests.test_signs import is_of_the_kinds, makes_square

SOME = (
    ("sum", 4, 1, 1, 1), ("sum", 2, 1, 1, 2), ("sum", 2, 1, 1, 4), ("sum", 2, 1, 1, 400), ("sum", 1, -4, 1, 1),
    ("sum", 1, -3, 1, 2), ("sum", 1, -4, 5, 1), ("sum", 1, -3, 8, 3), ("sum", 3, -4, 1, 2), ("sum", 3, 1, -4, 1),
    ("sum", 2, 5, 1, 1), ("sum", 2, 1, 5, 1), ("sum", 2, 5, 5, 1), ("sum", 2, -4, -4, 2), ("sum", 2, -3, -4, 1),
    ("sum", 24, 1, 1, 400), ("sum", 24, 1, 1, 1), ("sum", 23, -4, 1, 3), ("sum", 23, 1, -3, 1), ("sum", 12, 1, 1, 1),
    ("sum", 1, -399, 1, 1), ("sum", 3, 1, -399, 1), ("sum", 2, 397, 1, 1), ("sum", 6, 1, 397, 1), ("sum", 5, 8, -7, 7),
    ("sum", 1, -20, 17, 1), ("sum", 4, -20, -20, 1), ("sum", 2, 1, 1, 3), ("sum", 2, 8, 1, 2), ("sum", 4, 8, 1, 5),
)


def told_divisor_piece(thing):
    """Point 5.1, word by word."""
    if not isinstance(thing, tuple) or len(thing) != 5 or thing[0] != "sum":
        return False
    _, k, D, E, t = thing
    if not is_int(k) or not is_int(D) or not is_int(E) or not is_int(t) or k not in range(1, 25) or t < 1:
        return False
    if not told_sign(D) or not told_sign(E) or told_value(D, -1) * told_value(E, -1) != (-1) ** k:
        return False
    if k == 1 and D >= E or k == 2 and D == 1 and E == 1 and t < 2:
        return False
    return abs(D * E) * t <= 400


def told_first(piece):
    """Point 5.2: the term at 0."""
    _, k, D, E, t = piece
    if (k, D, E) == (2, 1, 1):
        return Fraction(t - 1, 24)
    if k > 1:
        return Fraction(*told_bernoulli(k, E)) / (-2 * k) if D == 1 else Fraction(0)
    if D == 1:
        return Fraction(*told_bernoulli(1, E)) / -2
    return Fraction(*told_bernoulli(1, D)) / -2 if E == 1 else Fraction(0)


def told_term(piece, n):
    """Point 5.2, term by term."""
    _, k, D, E, t = piece
    if n == 0:
        return told_first(piece)
    if (k, D, E) == (2, 1, 1):
        return sum(told_divisors(n)) - (t * sum(told_divisors(n // t)) if n % t == 0 else 0)
    return told_sum(n // t, k - 1, D, E) if n % t == 0 else 0


class IsDivisorPieceTest(CallCase):
    def test_examples(self):
        self.gives(False, is_divisor_piece, ("sum", 2, 1, 1, 1))
        self.gives(False, is_divisor_piece, ("sum", 3, 1, 1, 1))

    def test_ordinary(self):
        for piece in SOME:
            self.gives(True, is_divisor_piece, piece)

    def test_all_small_signs(self):
        small = (-12, -8, -7, -4, -3, -1, 0, 1, 2, 4, 5, 8, 9, 12)
        found = 0
        for k in (-1, 0, 1, 2, 3, 4, 23, 24, 25, 26):
            for D in small:
                for E in small:
                    for t in (-1, 0, 1, 2, 5, 6, 16, 17):
                        thing = ("sum", k, D, E, t)
                        found += told_divisor_piece(thing)
                        self.assertIs(is_divisor_piece(thing), told_divisor_piece(thing), thing)
        self.assertGreater(found, 500)

    def test_weight_one(self):
        for D in SIGNS:
            for E in (-4, -3, 1, 5, D):
                thing = ("sum", 1, D, E, 1)
                self.gives(told_divisor_piece(thing), is_divisor_piece, thing)
                self.gives(told_divisor_piece(thing), is_divisor_piece, ("sum", 1, D, E, 1))
        for D, E, expected in ((-4, 1, True), (1, -4, False), (-4, -4, False), (-4, -3, False), (5, -4, False),
                               (-4, 5, True), (1, 1, False)):
            self.gives(expected, is_divisor_piece, ("sum", 1, D, E, 1))

    def test_weight_two(self):
        for t, expected in ((-1, False), (0, False), (1, False), (2, True), (400, True), (401, False), (HUGE, False)):
            self.gives(expected, is_divisor_piece, ("sum", 2, 1, 1, t))
        for D, E in ((5, 1), (1, 5), (-3, -3), (5, 5)):
            self.gives(True, is_divisor_piece, ("sum", 2, D, E, 1))

    def test_levels_at_the_bound(self):
        for thing, expected in ((("sum", 4, 5, 1, 80), True), (("sum", 4, 5, 1, 81), False), (("sum", 4, 1, 1, 400), True),
                                (("sum", 4, 1, 1, 401), False), (("sum", 4, -20, -20, 1), True),
                                (("sum", 4, -20, -20, 2), False), (("sum", 3, -19, 21, 1), True),
                                (("sum", 3, -20, 21, 1), False), (("sum", 3, -4, 1, 100), True),
                                (("sum", 3, -4, 1, 101), False), (("sum", 2, 397, 1, 1), True),
                                (("sum", 2, 397, 1, 2), False), (("sum", 4, -23, -19, 1), False)):
            self.gives(expected, is_divisor_piece, thing)

    def test_weights_at_the_bound(self):
        for k, expected in ((-2, False), (0, False), (2, True), (24, True), (26, False), (HUGE - 1, False)):
            self.gives(expected, is_divisor_piece, ("sum", k, 1, 1, 3))
        for k, expected in ((-1, False), (1, True), (23, True), (25, False)):
            self.gives(expected, is_divisor_piece, ("sum", k, -4, 1, 3))

    def test_wrong_values(self):
        for thing in NO_INTEGERS + (0, HUGE, (), ("sum",), ("sum", 4, 1, 1), ("sum", 4, 1, 1, 1, 1), (4, 1, 1, 1)):
            self.gives(False, is_divisor_piece, thing)
        kinds = {True: 0, False: 0}
        for piece in SOME[:14]:
            for thing in spoiled(piece):
                good = told_divisor_piece(thing)
                kinds[good] += 1
                self.gives(good, is_divisor_piece, thing)
                if not good:
                    self.refuses_thing(BadSum, thing, sum_level, thing)
                    self.refuses_thing(BadSum, thing, sum_sign, thing)
                    self.refuses_thing(BadSum, thing, sum_first, thing)
                    self.refuses_thing(BadSum, thing, sum_terms, thing, 3)
                    self.refuses_thing(BadSum, thing, sum_terms, thing, 0)
        self.assertGreater(min(kinds.values()), 50)
        for thing in NO_SIGNS:
            self.gives(False, is_divisor_piece, ("sum", 4, thing, 1, 1))
            self.gives(False, is_divisor_piece, ("sum", 4, 1, thing, 1))

    def test_wrong_counts(self):
        for thing in NO_COUNTS:
            self.refuses_thing(BadCount, thing, sum_terms, SOME[0], thing)


class LevelAndSignTest(CallCase):
    def test_examples(self):
        self.assertEqual([sum_level(("sum", 3, -4, 1, 2)), sum_sign(("sum", 2, 5, 1, 1))], [8, 5])

    def test_by_the_words(self):
        for piece in SOME:
            _, k, D, E, t = piece
            self.gives(abs(D * E) * t, sum_level, piece)
            sign = sum_sign(piece)
            self.assertTrue(is_of_the_kinds(sign) and makes_square(sign, D * E))
            self.gives(sign, sum_sign, piece)
        self.gives(12, sum_sign, ("sum", 2, -3, -4, 1))
        self.gives(1, sum_sign, ("sum", 2, -4, -4, 2))
        self.gives(-340, sum_sign, ("sum", 1, -20, 17, 1))


class TermsTest(CallCase):
    def test_examples(self):
        self.gives((240, (1, 240, 2160, 6720)), sum_terms, ("sum", 4, 1, 1, 1), 4)
        self.gives((8, (1, 8, 24, 32, 24)), sum_terms, ("sum", 2, 1, 1, 4), 5)
        self.gives((4, (1, 4, 4, 0, 4, 8)), sum_terms, ("sum", 1, -4, 1, 1), 6)
        self.gives((1, (0, 0, 1, 0, 4)), sum_terms, ("sum", 3, -4, 1, 2), 5)
        self.gives((691, 65520), sum_first, ("sum", 12, 1, 1, 1))

    def test_term_by_term(self):
        for piece in SOME:
            terms = [Fraction(told_term(piece, n)) for n in range(60)]
            for many in (1, 2, 3, 10, 60):
                self.gives(beginning_of(terms[:many]), sum_terms, piece, many)

    def test_first_terms(self):
        for piece in SOME:
            self.gives(pair(told_first(piece)), sum_first, piece)
        for D in SIGNS:
            if D < -60:
                continue
            for k in range(1, 25):
                for piece in (("sum", k, D, 1, 1), ("sum", k, 1, D, 1), ("sum", k, D, 1, 2), ("sum", k, D, 5, 1)):
                    if abs(D) <= 60 and told_divisor_piece(piece):
                        self.gives(pair(told_first(piece)), sum_first, piece)

    def test_first_terms_where_the_sign_is_great(self):
        for piece in (("sum", 1, -399, 1, 1), ("sum", 3, 1, -399, 1), ("sum", 24, 1, 397, 1), ("sum", 23, 1, -391, 1)):
            self.gives(pair(told_first(piece)), sum_first, piece)

    def test_where_it_is_nought(self):
        for piece in (("sum", 1, -4, 5, 1), ("sum", 2, 5, 1, 1), ("sum", 3, -4, 1, 1), ("sum", 4, -3, -3, 2)):
            self.gives((0, 1), sum_first, piece)
        self.gives((0, 1), sum_first, ("sum", 2, 5, 5, 1))

    def test_spread(self):
        for k, D, E in ((4, 1, 1), (1, -4, 1), (3, 1, -4), (2, 5, 1), (24, 1, 1)):
            for t in (2, 3, 50):
                one, other = sum_terms(("sum", k, D, E, 1), 55), sum_terms(("sum", k, D, E, t), 55)
                self.assertEqual(spread(one, t), other)

    def test_the_weight_two(self):
        for t in (2, 3, 4, 10, 400):
            expected = beginning_of([Fraction(told_term(("sum", 2, 1, 1, t), n)) for n in range(200)])
            self.gives(expected, sum_terms, ("sum", 2, 1, 1, t), 200)
        self.gives((24, (1, 24, 24)), sum_terms, ("sum", 2, 1, 1, 2), 3)
        self.gives((8, (133, 8, 24)), sum_terms, ("sum", 2, 1, 1, 400), 3)

    def test_limits(self):
        for piece in (("sum", 24, 1, 1, 1), ("sum", 1, -4, 5, 1), ("sum", 6, 1, 397, 1)):
            for many in (200, 400):
                expected = beginning_of([Fraction(told_term(piece, n)) for n in range(many)])
                self.gives(expected, sum_terms, piece, many)
                self.assertTrue(is_lowest(sum_terms(piece, many)))
