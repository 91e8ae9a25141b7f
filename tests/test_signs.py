"""Points 1.2, 1.3 and 1.4: signs, their values, signs of integers."""
from math import gcd, isqrt

from firstterms.errors import BadNumber, BadSign
from firstterms.signs import is_sign, joined_sign, sign_at, sign_of
from tests.helpers import HUGE, NO_INTEGERS, NO_SIGNS, SIGNS, CallCase, has_square_divisor, told_sign, told_value


def is_of_the_kinds(D):
    """Point 1.2 without the bound of 400."""
    if D == 1:
        return True
    if D % 4 == 1:
        return not has_square_divisor(D)
    return D % 4 == 0 and (D // 4) % 4 in (2, 3) and not has_square_divisor(D // 4)


def makes_square(D, m):
    return D * m > 0 and isqrt(D * m) ** 2 == D * m


class IsSignTest(CallCase):
    def test_examples(self):
        self.assertEqual([is_sign(12), is_sign(4), is_sign(-4)], [True, False, True])

    def test_the_least(self):
        self.assertEqual([D for D in range(-8, 9) if is_sign(D)], [-8, -7, -4, -3, 1, 5, 8])

    def test_all_and_beyond(self):
        for D in range(-1000, 1001):
            self.gives(told_sign(D), is_sign, D)
        self.gives(False, is_sign, 401)
        self.gives(True, is_sign, 397)
        self.gives(True, is_sign, -399)

    def test_other_values(self):
        for thing in NO_SIGNS:
            self.gives(False, is_sign, thing)


class SignAtTest(CallCase):
    def test_examples(self):
        self.assertEqual([sign_at(-4, 7), sign_at(5, 2), sign_at(5, -1), sign_at(1, 0)], [-1, -1, 1, 1])

    def test_by_squares_of_remainders(self):
        for D in SIGNS:
            for n in range(-60, 61):
                self.assertEqual(sign_at(D, n), told_value(D, n), (D, n))
            for n in (97, 101, 128, 243, 399, 400, 401, 1009, -1013, 30030):
                self.gives(told_value(D, n), sign_at, D, n)

    def test_at_nought(self):
        for D in SIGNS:
            self.gives(1 if D == 1 else 0, sign_at, D, 0)
            self.gives(1 if D == 1 else 0, sign_at, D, 7 * D)

    def test_products_and_remainders(self):
        for D in (-3, -4, 5, 8, -8, 12, 60, -399, 397):
            for m, n in ((6, 35), (-9, 77), (10 ** 12 + 39, 3), (-5, -7)):
                self.assertEqual(sign_at(D, m * n), sign_at(D, m) * sign_at(D, n))
            for n in range(abs(D)):
                self.assertEqual(sign_at(D, n), sign_at(D, n - 3 * abs(D)))

    def test_great_integers(self):
        for D in SIGNS:
            for n in (10 ** 40, 10 ** 40 - 1, -10 ** 40, 1 - 10 ** 40, 3 ** 83, -(7 ** 47)):
                self.gives(told_value(D, n % abs(D)), sign_at, D, n)
        # Powers of small primes are told by the products alone, without any remainder.
        self.gives(told_value(5, 2) ** 131, sign_at, 5, 2 ** 131)
        self.gives(-(told_value(-7, 3) ** 83), sign_at, -7, -(3 ** 83))

    def test_wrong_values(self):
        for thing in NO_SIGNS:
            self.refuses_thing(BadSign, thing, sign_at, thing, 3)
            self.refuses_thing(BadSign, thing, sign_at, thing, "n")
        for thing in NO_INTEGERS + ((3, 1),):
            self.refuses_thing(BadNumber, thing, sign_at, -4, thing)


class SignOfTest(CallCase):
    def test_examples(self):
        self.assertEqual([sign_of(18), sign_of(-3), sign_of(49)], [8, -3, 1])

    def test_it_makes_a_square(self):
        for m in list(range(-400, 401)) + [9972, 10007, -10007, 65536, 2 * 3 * 5 * 7 * 11 * 13, -99856]:
            if m != 0:
                D = sign_of(m)
                self.assertTrue(is_of_the_kinds(D), m)
                self.assertTrue(makes_square(D, m), m)
                self.gives(D, sign_of, m)

    def test_edges(self):
        self.gives(1, sign_of, 1)
        self.gives(-4, sign_of, -1)
        self.gives(40, sign_of, 100000)
        self.gives(-40, sign_of, -100000)
        self.gives(4 * 99991, sign_of, 99991)
        self.gives(-99991, sign_of, -99991)
        self.gives(1, sign_of, 313 ** 2)
        self.gives(-4, sign_of, -(313 ** 2))
        self.gives(4 * 311 * 313, sign_of, 311 * 313)
        self.gives(-311 * 313, sign_of, -311 * 313)
        for m in (100001, -100001):
            self.refuses_thing(BadNumber, m, sign_of, m)

    def test_wrong_values(self):
        for thing in NO_INTEGERS + (0, HUGE, -HUGE, (1, 1)):
            self.refuses_thing(BadNumber, thing, sign_of, thing)


class JoinedSignTest(CallCase):
    def test_examples(self):
        self.assertEqual([joined_sign(-4, 5), joined_sign(-4, -8)], [-20, 8])

    def test_it_has_the_product_of_the_values(self):
        some = SIGNS[::9] + (1, -3, -4, 5, 8, -8)
        for one in some:
            for other in some:
                joined = joined_sign(one, other)
                self.assertTrue(makes_square(joined, one * other))
                self.assertTrue(is_of_the_kinds(joined) if abs(joined) < 5000 else True)
                self.assertEqual(joined, joined_sign(other, one))
                for n in (1, 2, -1, 7, 11, 101, -103):
                    if gcd(n, one) == 1 and gcd(n, other) == 1:
                        self.assertEqual(told_value(joined, n), sign_at(one, n) * sign_at(other, n))

    def test_edges(self):
        for D in SIGNS:
            self.gives(1, joined_sign, D, D)
            self.gives(D, joined_sign, D, 1)
            self.gives(D, joined_sign, 1, D)
        self.gives(389 * 397, joined_sign, 389, 397)
        self.gives(-399 * 397, joined_sign, -399, 397)
        self.gives(399 * 395, joined_sign, -399, -395)
        self.gives(-4 * 397, joined_sign, -4, 397)

    def test_wrong_values(self):
        for thing in NO_SIGNS:
            self.refuses_thing(BadSign, thing, joined_sign, thing, 5)
            self.refuses_thing(BadSign, thing, joined_sign, 5, thing)
        self.refuses_thing(BadSign, 2, joined_sign, 2, 3)
        self.refuses_thing(BadSign, None, joined_sign, None, True)
