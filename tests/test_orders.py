"""Points 4.2 and 4.3: orders at edges, poles, products by their orders."""
from fractions import Fraction
from math import gcd

from firstterms.edges import edges_of, index_of
from firstterms.errors import BadDivisor, BadLevel, BadOrders, BadProduct, OtherLevel
from firstterms.orders import by_orders, judge_poles, order_at, orders_of, poles_hold
from firstterms.products import joined_product, product_weight, start_of, turned_product
from tests.helpers import HUGE, NO_LEVELS, NO_PRODUCTS, CallCase, is_int, pair, spoiled
from tests.test_products import SOME

FIVE, ELEVEN, POLE = ((1, -1), (5, 5)), ((1, 2), (11, 2)), ((1, 24), (2, -24))
LEVELS = (1, 2, 3, 4, 5, 6, 8, 9, 11, 12, 16, 22, 23, 24, 30, 36, 40, 49, 60, 64, 120, 360, 397, 400)
EIGHT_DIVISORS = (24, 30, 40, 42, 54, 66, 88, 105, 128, 135, 385)


def told_divisors(level):
    return [c for c in range(1, level + 1) if level % c == 0]


def told_order(level, product, c):
    """Point 4.2, word by word."""
    g = gcd(c, level // c)
    total = sum([Fraction(gcd(c, d) ** 2 * r, d) for d, r in product], Fraction(0))
    return Fraction(level, 24 * g * c) * total


def told_orders(level, product):
    return [told_order(level, product, c) for c in told_divisors(level)]


def divided():
    """All pairs of a level and a product all of whose d divide it."""
    return [(level, product) for level in LEVELS for product in SOME if all(level % d == 0 for d, r in product)]


def told_holds(level, product, thing):
    """Point 4.3, word by word."""
    orders = told_orders(level, product)
    if not isinstance(thing, tuple) or len(thing) != 2:
        return False
    if thing[0] == "pole" and is_int(thing[1]):
        return thing[1] in told_divisors(level) and told_order(level, product, thing[1]) < 0
    if thing[0] != "none" or not isinstance(thing[1], tuple) or min(orders) < 0:
        return False
    for number in thing[1]:
        if not isinstance(number, tuple) or len(number) != 2 or not is_int(number[0]) or not is_int(number[1]):
            return False
        if number[1] < 1:
            return False
    return [Fraction(top, bottom) for top, bottom in thing[1]] == orders


class OrdersTest(CallCase):
    def test_examples(self):
        self.gives(((0, 1), (1, 1)), orders_of, 5, FIVE)
        self.gives((1, 2), order_at, 4, ((1, -4), (2, 10), (4, -4)), 2)

    def test_by_the_words(self):
        self.assertGreater(len(divided()), 200)
        for level, product in divided():
            self.gives(tuple([pair(order) for order in told_orders(level, product)]), orders_of, level, product)
            for c in told_divisors(level):
                self.gives(pair(told_order(level, product, c)), order_at, level, product, c)

    def test_their_sum(self):
        for level, product in divided():
            orders = [Fraction(top, bottom) for top, bottom in orders_of(level, product)]
            total = sum([many * order for order, (c, many, width) in zip(orders, edges_of(level))])
            top, bottom = product_weight(product)
            self.assertEqual(total, Fraction(top, bottom) * index_of(level) / 12)

    def test_start_is_the_last(self):
        for level, product in divided():
            self.assertEqual(orders_of(level, product)[-1], start_of(product))
            self.assertEqual(order_at(level, product, level), start_of(product))

    def test_joined_and_turned(self):
        for level in (6, 12, 16, 36, 60):
            some = [product for product in SOME if all(level % d == 0 for d, r in product) and abs(len(product)) < 4]
            for one in some:
                for other in some:
                    if not [d for d, r in one for e, s in other if d == e and abs(r + s) > 48]:
                        both = joined_product(one, other)
                        self.assertEqual(told_orders(level, both), [a + b for a, b in zip(
                            told_orders(level, one), told_orders(level, other))])
                        self.assertEqual([Fraction(*order) for order in orders_of(level, both)],
                                         told_orders(level, both))
                self.assertEqual(orders_of(level, turned_product(one, level)), orders_of(level, one)[::-1])

    def test_edges(self):
        self.gives(((0, 1),), orders_of, 1, ())
        self.gives(((1, 1),), orders_of, 1, ((1, 24),))
        self.gives(((-2, 1),), orders_of, 1, ((1, -48),))
        self.gives(((2, 1), (800, 1)), (lambda level, product: orders_of(level, product)[::14]), 400, ((400, 48),))
        self.gives((800, 1), order_at, 400, ((1, 48),), 1)

    def test_errors(self):
        for thing in NO_LEVELS:
            self.refuses_thing(BadLevel, thing, order_at, thing, FIVE, 1)
            self.refuses_thing(BadLevel, thing, order_at, thing, None, None)
            self.refuses_thing(BadLevel, thing, orders_of, thing, FIVE)
            self.refuses_thing(BadLevel, thing, orders_of, thing, "product")
            self.refuses_thing(BadLevel, thing, judge_poles, thing, None)
            self.refuses_thing(BadLevel, thing, poles_hold, thing, None, ("pole", 1))
        for thing in NO_PRODUCTS:
            self.refuses_thing(BadProduct, thing, order_at, 5, thing, 1)
            self.refuses_thing(BadProduct, thing, order_at, 5, thing, 2)
            self.refuses_thing(BadProduct, thing, orders_of, 5, thing)
            self.refuses_thing(BadProduct, thing, judge_poles, 5, thing)
            self.refuses_thing(BadProduct, thing, poles_hold, 5, thing, ("pole", 1))
        for level, product in ((1, FIVE), (4, FIVE), (399, FIVE), (22, ((1, 1), (4, 1))), (5, ((10, 24),))):
            self.refuses_thing(OtherLevel, level, order_at, level, product, 1)
            self.refuses_thing(OtherLevel, level, order_at, level, product, None)
            self.refuses_thing(OtherLevel, level, orders_of, level, product)
            self.refuses_thing(OtherLevel, level, judge_poles, level, product)
            self.refuses_thing(OtherLevel, level, poles_hold, level, product, None)
        for thing in NO_LEVELS + (2, 3, 4, 10, 25, 50, (5, 1)):
            self.refuses_thing(BadDivisor, thing, order_at, 5, FIVE, thing)
        self.refuses_thing(BadDivisor, 5, order_at, 1, (), 5)


class PolesTest(CallCase):
    def test_examples(self):
        self.gives(("pole", 2), judge_poles, 2, POLE)
        self.gives(True, poles_hold, 11, ELEVEN, ("none", ((1, 1), (1, 1))))

    def test_judged_by_the_orders(self):
        kinds = {"pole": 0, "none": 0}
        for level, product in divided():
            told = judge_poles(level, product)
            kinds[told[0]] += 1
            self.assertEqual(told[0], "pole" if min(told_orders(level, product)) < 0 else "none")
            self.assertTrue(told_holds(level, product, told))
            self.gives(told, judge_poles, level, product)
            self.gives(True, poles_hold, level, product, told)
        self.assertGreater(min(kinds.values()), 50)

    def test_all_certificates_of_a_few(self):
        for level, product in ((2, POLE), (5, FIVE), (11, ELEVEN), (12, ((1, -2), (2, 5), (4, -2))), (1, ()),
                               (24, ((1, 2), (2, -4), (3, 6))), (4, ((1, 8), (4, -8))), (6, ((1, -1), (6, -1)))):
            for c in list(range(-2, level + 3)) + [True, False, None, "1", HUGE, (1,), [1], 2 * level]:
                for word in ("pole", "none", "Pole", "term", "", None, 0):
                    self.gives(told_holds(level, product, (word, c)), poles_hold, level, product, (word, c))
            orders = orders_of(level, product)
            for word in ("pole", "none"):
                for thing in spoiled((word, orders)):
                    self.gives(told_holds(level, product, thing), poles_hold, level, product, thing)
            told = judge_poles(level, product)
            for thing in spoiled(told):
                self.gives(told_holds(level, product, thing), poles_hold, level, product, thing)

    def test_numbers_in_any_terms(self):
        orders = orders_of(4, ((1, -4), (2, 10), (4, -4)))
        self.assertEqual(orders, ((0, 1), (1, 2), (0, 1)))
        for numbers, expected in ((orders, True), (((0, 7), (5, 10), (0, 3)), True), (((0, 1), (HUGE, 2 * HUGE), (0, 1)), True),
                                  (((0, 1), (-1, -2), (0, 1)), False), (((0, 0), (1, 2), (0, 1)), False),
                                  (((0, 1), (1, 3), (0, 1)), False), (((0, 1), (0, 1), (1, 2)), False),
                                  (((1, 2),), False), (orders + ((0, 1),), False), (list(orders), False), ((), False)):
            self.gives(expected, poles_hold, 4, ((1, -4), (2, 10), (4, -4)), ("none", numbers))

    def test_right_orders_with_a_pole(self):
        self.gives(False, poles_hold, 2, POLE, ("none", orders_of(2, POLE)))
        self.gives(True, poles_hold, 2, POLE, ("pole", 2))
        self.gives(False, poles_hold, 2, POLE, ("pole", 1))
        self.gives(False, poles_hold, 2, POLE, ("pole", 4))

    def test_each_of_two_poles(self):
        for c in (1, 5):
            self.gives(True, poles_hold, 5, ((1, -1), (5, -1)), ("pole", c))


class ByOrdersTest(CallCase):
    def test_examples(self):
        self.assertEqual([by_orders(5, ((0, 1), (1, 1))), by_orders(2, ((1, 1), (1, 1))), by_orders(2, ((1, 2), (1, 3)))],
                         [FIVE, ((1, 8), (2, 8)), None])

    def test_there_and_back(self):
        found = 0
        for level, product in divided():
            if len(told_divisors(level)) <= 8:
                found += 1
                self.gives(product, by_orders, level, orders_of(level, product))
        self.assertGreater(found, 150)

    def test_eight_divisors(self):
        for level in EIGHT_DIVISORS:
            ds = told_divisors(level)
            self.assertEqual(len(ds), 8)
            for product in (tuple([(d, (-1) ** d * (d % 48 + 1)) for d in ds]), tuple([(d, 48) for d in ds]),
                            tuple([(d, -48) for d in ds]), (), ((ds[3], 1),), ((ds[7], -48), )):
                self.gives(product, by_orders, level, orders_of(level, product))

    def test_more_divisors(self):
        product = ((1, 3), (5, -7), (12, 48), (60, -48))
        self.gives(product, by_orders, 60, orders_of(60, product))
        nine = [sum([told_order(36, ((d, 1),), c) for d in told_divisors(36)]) for c in told_divisors(36)]
        self.gives(None, by_orders, 36, tuple([pair(order) for order in nine]))

    def test_in_any_terms(self):
        for level, product in ((5, FIVE), (11, ELEVEN), (12, ((1, -2), (2, 5), (4, -2))), (2, POLE)):
            orders = orders_of(level, product)
            self.gives(product, by_orders, level, tuple([(6 * top, 6 * bottom) for top, bottom in orders]))
            self.gives(product, by_orders, level, tuple([
                (top * k, bottom * k) for k, (top, bottom) in enumerate(orders, start=HUGE)]))

    def test_none(self):
        self.gives(((1, 24), (2, 24)), by_orders, 2, ((3, 1), (3, 1)))
        self.gives(((1, 48), (2, 48)), by_orders, 2, ((6, 1), (6, 1)))
        self.gives(None, by_orders, 2, ((7, 1), (6, 1)))
        self.gives(None, by_orders, 1, ((49, 24),))
        self.gives(None, by_orders, 1, ((-49, 24),))
        self.gives(((1, 48),), by_orders, 1, ((2, 1),))
        self.gives(((1, -48),), by_orders, 1, ((-2, 1),))
        self.gives(((1, 1),), by_orders, 1, ((1, 24),))
        self.gives(None, by_orders, 1, ((1, 48),))
        self.gives(None, by_orders, 1, ((HUGE, 1),))
        self.gives(None, by_orders, 1, ((1, HUGE),))
        self.gives((), by_orders, 1, ((0, 5),))
        self.gives((), by_orders, 4, ((0, 1), (0, 2), (0, 3)))

    def test_each_answer_has_the_orders(self):
        some = [(0, 1), (1, 1), (1, 2), (-1, 1), (2, 1), (1, 24)]
        found = 0
        for level in (3, 4, 6):
            ds = told_divisors(level)
            for code in range(6 ** len(ds)):
                orders = tuple([some[code // 6 ** i % 6] for i in range(len(ds))])
                product = by_orders(level, orders)
                if product is not None:
                    found += 1
                    self.assertEqual(orders_of(level, product), orders)
                self.assertTrue(product is None or all(level % d == 0 for d, r in product))
        self.assertGreater(found, 50)

    def test_wrong_values(self):
        for thing in NO_LEVELS:
            self.refuses_thing(BadLevel, thing, by_orders, thing, ((0, 1), (1, 1)))
            self.refuses_thing(BadLevel, thing, by_orders, thing, None)
        right = ((0, 1), (1, 1))
        kinds = {True: 0, False: 0}
        for thing in list(spoiled(right)) + list(NO_LEVELS):
            good = isinstance(thing, tuple) and len(thing) == 2
            good = good and all(isinstance(number, tuple) and len(number) == 2 for number in thing)
            good = good and all(is_int(top) and is_int(bottom) and bottom >= 1 for top, bottom in thing)
            kinds[good] += 1
            if good:
                by_orders(5, thing)
            else:
                self.refuses_thing(BadOrders, thing, by_orders, 5, thing)
        self.assertGreater(min(kinds.values()), 5)
        self.refuses_thing(BadOrders, (), by_orders, 5, ())
        self.refuses_thing(BadOrders, right + ((0, 1),), by_orders, 5, right + ((0, 1),))
        self.refuses_thing(BadOrders, right, by_orders, 4, right)
        self.refuses_thing(BadOrders, (1, 1), by_orders, 5, (1, 1))
