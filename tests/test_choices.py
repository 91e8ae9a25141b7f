"""Point 3.2: choices of parts, and the sum over them."""
from itertools import combinations_with_replacement

from firstterms.choices import choice_sum, choices
from firstterms.errors import BadNumber, BadProduct, TooMany
from firstterms.products import product_terms
from tests.helpers import HUGE, NO_INTEGERS, NO_PRODUCTS, CallCase, factors_out

PARTITIONS = ((1, -1),)
EIGHT = tuple([(d, 12 * (-1) ** d) for d in range(1, 9)])
SOME = (
    (), PARTITIONS, ((1, 1),), ((2, -2),), ((2, 2),), ((1, -1), (5, 5)), ((1, 2), (2, -1)), ((1, -1), (2, 2)), ((3, 1),),
    ((1, 1), (2, 1), (3, 1)), ((2, -1), (3, 2)), ((1, -2),), ((1, 3),), ((2, 1), (5, -1)),
)


def told_choices(product, n):
    """All choices of n, by trying all tuples of parts."""
    parts = []
    for d, r in product:
        for m in range(1, n + 1):
            for colour in range(1, abs(r) + 1):
                if d * m <= n:
                    parts.append((d * m, d, colour))
    once = [d for d, r in product if r > 0]
    found = []
    for many in range(n + 1):
        for tried in combinations_with_replacement(sorted(parts), many):
            repeated = [part for part in tried if part[1] in once and tried.count(part) > 1]
            if sum([part[0] for part in tried]) == n and not repeated:
                found.append(tried)
    return tuple(sorted(found))


def told_sum(product, found):
    above = {d for d, r in product if r > 0}
    return sum([(-1) ** len([part for part in choice if part[1] in above]) for choice in found])


class ChoicesTest(CallCase):
    def test_examples(self):
        self.gives((((1, 1, 1), (1, 1, 1), (1, 1, 1)), ((1, 1, 1), (2, 1, 1)), ((3, 1, 1),)), choices, PARTITIONS, 3, 9)
        self.gives((((1, 1, 1), (2, 1, 1)), ((3, 1, 1),)), choices, ((1, 1),), 3, 9)
        self.gives(0, choice_sum, ((1, 1),), 3)
        self.gives((((2, 2, 1),), ((2, 2, 2),)), choices, ((2, -2),), 2, 9)

    def test_one_by_one(self):
        for product in SOME:
            for n in range(6):
                expected = told_choices(product, n)
                self.gives(expected, choices, product, n, len(expected))
                self.gives(expected, choices, product, n, 10 ** 50)
                self.gives(told_sum(product, expected), choice_sum, product, n)
                if expected:
                    self.refuses(TooMany, {"most": len(expected) - 1}, choices, product, n, len(expected) - 1)
                    self.refuses(TooMany, {"most": 0}, choices, product, n, 0)

    def test_nought(self):
        for product in SOME + (EIGHT,):
            self.gives(((),), choices, product, 0, 1)
            self.gives(1, choice_sum, product, 0)
            self.refuses(TooMany, {"most": 0}, choices, product, 0, 0)

    def test_none(self):
        self.gives((), choices, (), 5, 0)
        self.gives((), choices, ((4, -12),), 11, 0)
        self.gives((), choices, ((13, 48),), 12, 0)
        self.gives(0, choice_sum, (), 5)
        self.gives((((11, 11, 1),),), choices, ((2, -12), (4, -12), (6, -12), (11, 1)), 11, 1)

    def test_partitions(self):
        counts = (1, 1, 2, 3, 5, 7, 11, 15, 22, 30, 42, 56, 77)
        for n, count in enumerate(counts):
            self.assertEqual(len(choices(PARTITIONS, n, count)), count)
            self.gives(count, choice_sum, PARTITIONS, n)

    def test_the_sum_is_the_term(self):
        for product in SOME + (EIGHT, ((1, 12),), ((1, -12),), ((1, 12), (2, -12), (12, 12))):
            terms = product_terms(product, 13)[1]
            for n in range(13):
                self.assertEqual(choice_sum(product, n), terms[n])

    def test_limits(self):
        self.gives(factors_out(EIGHT, 13)[12], choice_sum, EIGHT, 12)
        for product in (EIGHT, ((1, 12),), ((1, -12),), tuple([(d, -12) for d in range(1, 9)])):
            count = factors_out(product, 13, signs=False)[12]
            self.refuses(TooMany, {"most": count - 1}, choices, product, 12, count - 1)
            self.refuses(TooMany, {"most": 7}, choices, product, 12, 7)
        for product in (((1, 1), (3, -2)), ((2, 12),), ((1, -2),), ((4, -12), (5, 12), (6, 12))):
            count = factors_out(product, 13, signs=False)[12]
            found = choices(product, 12, count)
            self.assertEqual(len(found), count)
            self.assertEqual(list(found), sorted(set(found)))
            for choice in found:
                self.assertEqual(list(choice), sorted(choice))
                self.assertEqual(sum([part[0] for part in choice]), 12)
            self.refuses(TooMany, {"most": count - 1}, choices, product, 12, count - 1)

    def test_many_colours(self):
        for product in (((1, 48),), ((1, -48),), ((1, 48), (2, -48))):
            count = factors_out(product, 3, signs=False)[2]
            expected = told_choices(product, 2)
            self.assertEqual(len(expected), count)
            self.gives(expected, choices, product, 2, count)
            self.refuses(TooMany, {"most": count - 1}, choices, product, 2, count - 1)

    def test_wrong_values(self):
        for thing in NO_PRODUCTS:
            self.refuses_thing(BadProduct, thing, choices, thing, 2, 9)
            self.refuses_thing(BadProduct, thing, choices, thing, -1, -1)
            self.refuses_thing(BadProduct, thing, choice_sum, thing, 2)
            self.refuses_thing(BadProduct, thing, choice_sum, thing, None)
        for thing in NO_INTEGERS + (-1, -HUGE, (1, 1)):
            self.refuses_thing(BadNumber, thing, choices, PARTITIONS, thing, 9)
            self.refuses_thing(BadNumber, thing, choices, PARTITIONS, thing, -2)
            self.refuses_thing(BadNumber, thing, choice_sum, PARTITIONS, thing)
            self.refuses_thing(BadNumber, thing, choices, PARTITIONS, 3, thing)
