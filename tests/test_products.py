"""Points 3.1, 3.4 and 3.5: products, their terms, levels and signs, products of products."""
from fractions import Fraction
from math import isqrt, lcm, prod

from firstterms.beginnings import multiplied, power, spread
from firstterms.errors import BadCount, BadLevel, BadNumber, BadProduct, NotWhole, OtherLevel, TooMany
from firstterms.products import (
    does_fit, is_product, joined_product, product_level, product_sign, product_terms, product_weight, spread_product,
    start_of, turned_product, undone_product)
from tests.helpers import HUGE, NO_COUNTS, NO_INTEGERS, NO_LEVELS, NO_PRODUCTS, CallCase, factors_out, pair
from tests.test_signs import is_of_the_kinds

PARTITIONS, FIVE, ELEVEN = ((1, -1),), ((1, -1), (5, 5)), ((1, 2), (11, 2))
EIGHT = tuple([(d, (-1) ** d * d) for d in range(1, 9)])
SOME = (
    (), PARTITIONS, FIVE, ELEVEN, EIGHT, ((1, 24),), ((1, -24),), ((4, 6),), ((1, 1), (23, 1)), ((2, 12),), ((6, 4),),
    ((1, -2), (2, 5), (4, -2)), ((1, -4), (2, 10), (4, -4)), ((1, 8), (2, 8)), ((3, 8),), ((8, 48),), ((400, 48),),
    ((1, 2), (2, 1), (4, 1), (8, 2)), ((1, 2), (2, -4), (3, 6)), ((1, -48), (400, 48)), ((1, 1),), ((1, 3), (7, 3)),
    ((2, 1), (22, 1)), ((1, 24), (2, -24)), ((1, 1), (2, 1), (3, 1), (6, 1)), ((397, 24),), ((12, 2),), ((7, -48),),
    ((1, 5), (3, 1), (4, -2)), ((1, -1), (7, 7)), ((3, 3), (5, 3)), ((1, 3), (15, 3)), ((12, 48), (35, -24)),
    ((1, -2), (4, -1), (6, 1)), ((2, 1), (3, -2), (4, 1)),
)


def is_whole(product):
    return sum([r for d, r in product]) % 2 == 0 and sum([d * r for d, r in product]) % 24 == 0


def fits(product, level):
    """Point 3.4, word by word."""
    if [d for d, r in product if level % d != 0] or not is_whole(product):
        return False
    return sum([Fraction(level, d) * r for d, r in product]) % 24 == 0


def told_level(product):
    """The least level, by trying each multiple of all d."""
    if not is_whole(product):
        return None
    step = lcm(*[d for d, r in product])
    level = step
    while not fits(product, level):
        level += step
    return level


class IsProductTest(CallCase):
    def test_ordinary(self):
        for thing in SOME:
            self.gives(True, is_product, thing)

    def test_edges(self):
        self.gives(True, is_product, ())
        self.gives(True, is_product, tuple([(d, 1) for d in range(393, 401)]))
        self.gives(False, is_product, tuple([(d, 1) for d in range(392, 401)]))
        for d, expected in ((0, False), (1, True), (400, True), (401, False)):
            self.gives(expected, is_product, ((d, 1),))
        for r, expected in ((-49, False), (-48, True), (-1, True), (0, False), (48, True), (49, False)):
            self.gives(expected, is_product, ((1, r),))

    def test_wrong_values(self):
        for thing in NO_PRODUCTS:
            self.gives(False, is_product, thing)

    def test_each_function_refuses_it_first(self):
        for thing in NO_PRODUCTS:
            for function in (start_of, product_weight, product_level, product_sign, undone_product):
                self.refuses_thing(BadProduct, thing, function, thing)
            for function in (product_terms, does_fit, turned_product, spread_product):
                self.refuses_thing(BadProduct, thing, function, thing, 1)
                self.refuses_thing(BadProduct, thing, function, thing, None)
            self.refuses_thing(BadProduct, thing, joined_product, thing, FIVE)
            self.refuses_thing(BadProduct, thing, joined_product, FIVE, thing)
            self.refuses_thing(BadProduct, thing, joined_product, thing, "other")


class NumbersTest(CallCase):
    def test_examples(self):
        self.assertEqual([start_of(PARTITIONS), product_weight(PARTITIONS)], [(-1, 24), (-1, 2)])
        self.assertEqual([start_of(FIVE), product_weight(FIVE)], [(1, 1), (2, 1)])

    def test_starts_and_weights(self):
        for product in SOME:
            self.gives(pair(sum([Fraction(d * r, 24) for d, r in product])), start_of, product)
            self.gives(pair(sum([Fraction(r, 2) for d, r in product])), product_weight, product)

    def test_edges(self):
        self.gives((0, 1), start_of, ())
        self.gives((0, 1), product_weight, ())
        self.gives((800, 1), start_of, ((400, 48),))
        self.gives((-24, 1), product_weight, ((1, -48),))
        self.gives((1, 8), start_of, ((3, 1),))


class TermsTest(CallCase):
    def test_examples(self):
        self.gives((1, (1, 1, 2, 3, 5, 7, 11, 15)), product_terms, PARTITIONS, 8)
        self.gives((1, (1, -2, -1, 2, 1, 2)), product_terms, ELEVEN, 6)

    def test_factors_multiplied_out(self):
        for product in SOME:
            terms = tuple(factors_out(product, 40))
            for many in (1, 2, 3, 17, 40):
                self.gives((1, terms[:many]), product_terms, product, many)

    def test_limits(self):
        for product in ((), tuple([(d, 30) for d in range(1, 9)]), tuple([(d, -30) for d in range(1, 9)]),
                        tuple([(d, 30 * (-1) ** d) for d in range(1, 9)]), ((200, 30),), ((199, -30),), ((400, 5),)):
            self.gives((1, tuple(factors_out(product, 200))), product_terms, product, 200)

    def test_most_terms(self):
        self.gives((1, tuple(factors_out(PARTITIONS, 400))), product_terms, PARTITIONS, 400)
        self.gives((1, (1,)), product_terms, EIGHT, 1)

    def test_wrong_counts(self):
        for thing in NO_COUNTS:
            self.refuses_thing(BadCount, thing, product_terms, FIVE, thing)


class LevelTest(CallCase):
    def test_examples(self):
        self.gives(None, product_level, PARTITIONS)
        self.assertEqual([product_level(FIVE), product_level(((4, 6),)), product_level(((1, 24),)), product_level(())],
                         [5, 16, 1, 1])
        self.gives(True, does_fit, FIVE, 10)

    def test_by_trying_each_multiple(self):
        for product in SOME:
            self.gives(told_level(product), product_level, product)

    def test_many_products(self):
        for d in range(1, 18):
            for r in (1, 2, -3, 4, 6, 8, 12, -24, 24, 48):
                for product in (((d, r),), ((d, r), (2 * d, -r)), ((d, r), (3 * d, r)), ((d, r), (23 * d, r))):
                    self.assertEqual(product_level(product), told_level(product), product)

    def test_fits(self):
        for product in SOME:
            for level in list(range(1, 61)) + [72, 96, 120, 144, 240, 288, 397, 399, 400]:
                self.gives(fits(product, level), does_fit, product, level)

    def test_fits_just_the_multiples(self):
        for product in SOME:
            least = product_level(product)
            if least is not None:
                for level in range(1, 401):
                    self.assertIs(does_fit(product, level), level % least == 0)

    def test_wrong_levels(self):
        for thing in NO_LEVELS:
            self.refuses_thing(BadLevel, thing, does_fit, FIVE, thing)
            self.refuses_thing(BadLevel, thing, does_fit, PARTITIONS, thing)


class SignTest(CallCase):
    def test_examples(self):
        self.assertEqual([product_sign(FIVE), product_sign(((4, 6),)), product_sign(((1, 1), (23, 1)))], [5, -4, -23])

    def test_by_squares(self):
        found = 0
        for product in SOME:
            if is_whole(product):
                found += 1
                m = -1 if sum([r for d, r in product]) // 2 % 2 else 1
                for d, r in product:
                    if r % 2 != 0:
                        m *= d
                sign = product_sign(product)
                self.assertTrue(is_of_the_kinds(sign))
                self.assertTrue(sign * m > 0 and isqrt(sign * m) ** 2 == sign * m)
                self.gives(sign, product_sign, product)
        self.assertGreater(found, 15)

    def test_edges(self):
        self.gives(1, product_sign, ())
        self.gives(1, product_sign, ((1, -24),))
        self.gives(-3, product_sign, ((1, -3), (3, 9)))
        self.gives(-23, product_sign, ((1, -1), (23, -1)))
        self.gives(-4 * 30030, product_sign, ((1, 3), (2, 1), (3, 1), (4, 1), (5, 1), (7, 1), (11, 1), (13, 1)))
        primes = (353, 359, 367, 373, 379, 383, 389, 397)
        self.gives(prod(primes), product_sign, tuple([(p, 1) for p in primes]))

    def test_not_whole(self):
        for product in (PARTITIONS, ((1, 1), (2, 1)), ((1, 8),), ((24, 1),), ((2, 2), (6, 3)), ((1, 2), (2, 10))):
            self.assertFalse(is_whole(product))
            self.refuses_thing(NotWhole, product, product_sign, product)
            self.gives(None, product_level, product)


class MadeTest(CallCase):
    def test_examples(self):
        self.gives(((2, 1),), joined_product, PARTITIONS, ((1, 1), (2, 1)))
        self.gives(((1, 5), (5, -1)), turned_product, FIVE, 5)

    def test_joined(self):
        for one in SOME[:12]:
            for other in SOME[:12]:
                sums = {d: 0 for d, r in one + other}
                for d, r in one + other:
                    sums[d] += r
                expected = tuple([(d, sums[d]) for d in sorted(sums) if sums[d] != 0])
                if is_product(expected):
                    self.gives(expected, joined_product, one, other)
                    self.assertEqual(multiplied(product_terms(one, 30), product_terms(other, 30)),
                                     product_terms(expected, 30))
        self.gives((), joined_product, EIGHT, undone_product(EIGHT))

    def test_joined_at_the_bounds(self):
        four = tuple([(d, 1) for d in range(1, 5)])
        more = tuple([(d, 1) for d in range(5, 9)])
        self.gives(four + more, joined_product, more, four)
        self.gives(four + more[1:] + ((400, 1),), joined_product, four, more[1:] + ((400, 1),))
        self.refuses(TooMany, {"most": 8}, joined_product, four + more, ((9, 1),))
        self.gives(more + ((9, 1),), joined_product, four + more, ((1, -1), (2, -1), (3, -1), (4, -1), (9, 1)))
        self.gives(((1, 48),), joined_product, ((1, 24),), ((1, 24),))
        self.gives(((1, -48),), joined_product, ((1, -47),), ((1, -1),))
        self.refuses(TooMany, {"most": 48}, joined_product, ((1, 24),), ((1, 25),))
        self.refuses(TooMany, {"most": 48}, joined_product, ((1, -48),), ((1, -1),))
        self.refuses(TooMany, {"most": 48}, joined_product, four + more, ((1, 48), (9, 1)))

    def test_undone(self):
        for product in SOME:
            self.gives(tuple([(d, -r) for d, r in product]), undone_product, product)
            self.assertEqual(product_terms(undone_product(product), 20), power(product_terms(product, 20), -1))

    def test_turned(self):
        for product in SOME:
            for level in (1, 5, 12, 35, 40, 46, 60, 120, 231, 360, 397, 400):
                if all(level % d == 0 for d, r in product):
                    expected = tuple(sorted([(level // d, r) for d, r in product]))
                    self.gives(expected, turned_product, product, level)
                    self.gives(product, turned_product, expected, level)
                else:
                    self.refuses_thing(OtherLevel, level, turned_product, product, level)
        for thing in NO_LEVELS:
            self.refuses_thing(BadLevel, thing, turned_product, FIVE, thing)
            self.refuses_thing(BadLevel, thing, turned_product, ((3, 1),), thing)

    def test_spread(self):
        for product in SOME:
            for t in (1, 2, 3, 50, 400, 401, 10 ** 30):
                expected = tuple([(t * d, r) for d, r in product])
                if is_product(expected):
                    self.gives(expected, spread_product, product, t)
                    self.assertEqual(product_terms(expected, 60), spread(product_terms(product, 60), t))
                else:
                    self.refuses(TooMany, {"most": 400}, spread_product, product, t)
        self.gives((), spread_product, (), HUGE)
        self.gives(((400, 1),), spread_product, ((8, 1),), 50)
        self.refuses(TooMany, {"most": 400}, spread_product, ((8, 1),), 51)
        for thing in NO_INTEGERS + (0, -1, -HUGE, (2, 1)):
            self.refuses_thing(BadNumber, thing, spread_product, FIVE, thing)
            self.refuses_thing(BadNumber, thing, spread_product, (), thing)
