"""Points 10.1 to 10.4: remainders of terms, divisible or alike for all n."""
import random
from fractions import Fraction
from math import gcd, lcm

from firstterms.blends import blend_terms, scaled
from firstterms.errors import BadBlend, BadLevel, BadModulus, BadNumber, NoRemainders, OtherSign, OtherWeight
from firstterms.remainders import alike_holds, does_keep, divisible_holds, judge_alike, judge_divisible, remainder_at
from tests.helpers import HUGE, NO_INTEGERS, CallCase, fractions_of, is_int, spoiled
from tests.pool import (
    POOL, blend, form, product, some_blends, told_blend_facts, told_index, told_number, told_row, told_terms, total)
from tests.test_blends import DELTA, EISEN, FOUR, NO_BLENDS, POLE, is_told_smooth
from tests.test_equal import EQUAL
from tests.test_forms import E8
from tests.test_steps import ELEVEN, PRIMES, SMALL, is_near

FIVE, SEVEN = blend((product((1, -1), (5, 5)), 1)), blend((product((1, -1), (7, 7)), 1))
OUGHT_ELEVEN = blend((product((1, -1), (11, 11)), 1))
TWELVE = blend((total(12, 1, 1), 1))
NO_MODULI = NO_INTEGERS + (0, 1, -1, -5, 1001, HUGE, -HUGE, (5,), "5", (5, 1))
NO_STRIDES = NO_INTEGERS + (0, -1, -5, 61, 100, HUGE, -HUGE, (5,), "5", (5, 1))
NO_PLACES = NO_INTEGERS + (-1, -5, 301, 400, HUGE, -HUGE, (5,), "5", (5, 1))
BLENDS = [blended for blended in some_blends(random.Random(101), 8) if is_told_smooth(blended)]
MODULI = (2, 3, 4, 5, 6, 7, 9, 10, 12, 30, 49, 210, 691, 997, 1000)


def told_keep(blended, modulus):
    """Point 10.1, word by word, over many terms of each piece."""
    if not is_told_smooth(blended):
        return False
    for piece, number in blended:
        unknowns = len(piece[1]) if piece[0] == "form" else 2
        terms = told_terms(piece, {2: 120, 4: 10, 6: 5, 8: 3}[unknowns])
        if piece[0] == "product":
            terms = {n: terms[n] for n in sorted(terms)[:20]} or {0: 1}
        for term in terms.values():
            if gcd((Fraction(*number) * term).denominator, modulus) != 1:
                return False
    return True


def told_remainder(term, modulus):
    """The one r for which the term less r, in lowest terms, has a top that the modulus divides."""
    found = [r for r in range(modulus) if (Fraction(term) - r).numerator % modulus == 0]
    assert len(found) == 1
    return found[0]


def terms_to(blended, most):
    row = told_row(blended, most)
    return [row.get(n, Fraction(0)) for n in range(most + 1)]


def wide_level(level, stride):
    for p in PRIMES:
        if stride % p == 0 and level % p != 0:
            level *= p
    return level


def told_divisible(blended, stride, modulus):
    """Point 10.2: P, and all n up to it at which the term is not divisible."""
    weight, level, sign = told_blend_facts(blended)
    place = weight * told_index(wide_level(level, stride)) // 12
    terms = terms_to(blended, stride * place)
    return place, [n for n in range(place + 1) if terms[stride * n].numerator % modulus != 0]


def told_alike(one, other, modulus):
    """Point 10.3: P, and all n up to it at which the terms are not alike."""
    weight, level, sign = told_blend_facts(one)
    place = weight * told_index(lcm(level, told_blend_facts(other)[1])) // 12
    pairs = zip(terms_to(one, place), terms_to(other, place))
    return place, [n for n, (a, b) in enumerate(pairs) if (a - b).numerator % modulus != 0]


def told_holds(thing, apart, place, words):
    if not isinstance(thing, tuple) or len(thing) != 2 or not is_int(thing[1]):
        return False
    return thing[0] == words[0] and thing[1] == place and not apart or thing[0] == words[1] and thing[1] in apart


def things_near(place, words, told):
    for n in list(range(-2, place + 3)) + [HUGE, -HUGE, True, False, None, "1", (0, 1), [0]]:
        for word in words + ("equal", "divisible", "alike", "term", "apart", None):
            yield (word, n)
    for thing in spoiled(told):
        yield thing


class KeepTest(CallCase):
    def test_examples(self):
        self.gives(False, does_keep, TWELVE, 5)
        self.gives(1, remainder_at, SEVEN, 2, 7)

    def test_by_the_words(self):
        kinds = {True: 0, False: 0}
        for blended in BLENDS + [EISEN, SMALL, DELTA, TWELVE, FOUR, FIVE, SEVEN, ELEVEN]:
            for modulus in MODULI:
                expected = told_keep(blended, modulus)
                kinds[expected] += 1
                self.gives(expected, does_keep, blended, modulus)
        self.assertGreater(min(kinds.values()), 100)

    def test_bottoms(self):
        # The term at 0 of the first piece is 1 / 240, which goes away with 240.
        for number, modulus, expected in (((240, 1), 2, True), ((240, 1), 5, True), ((1, 1), 5, False),
                                          ((1, 1), 7, True),
                                          ((1, 7), 7, False), ((240, 7), 2, True), ((240, 7), 14, False),
                                          ((48, 1), 5, False),
                                          ((120, 1), 2, False), ((120, 1), 3, True), ((5, 1), 5, True),
                                          ((80, 1), 6, False)):
            self.gives(expected, does_keep, blend((total(4, 1, 1), number)), modulus)
            self.assertIs(told_keep(blend((total(4, 1, 1), number)), modulus), expected)
        # The term at 0 is 691 / 65520: its top takes away a bottom of 691, but not at other n.
        for number, modulus, expected in (((1, 691), 691, False), ((65520, 691), 691, False), ((65520, 1), 1000, True),
                                          ((65520, 1), 691, True), ((1, 1), 691, True), ((1, 1), 13, False)):
            self.gives(expected, does_keep, blend((total(12, 1, 1), number)), modulus)
            self.assertIs(told_keep(blend((total(12, 1, 1), number)), modulus), expected)
        # Here the term at 0 is 0, so that the number alone decides.
        for number, modulus, expected in (((1, 1), 2, True), ((1, 3), 3, False), ((1, 3), 2, True)):
            self.gives(expected, does_keep, blend((total(2, 5, 1), number)), modulus)
        # (t - 1) / 24
        for t, modulus, expected in ((2, 2, False), (25, 2, True), (25, 3, True), (13, 2, False), (13, 3, True),
                                     (9, 3, False)):
            self.gives(expected, does_keep, blend((total(2, 1, 1, t), 1)), modulus)

    def test_each_piece_counts(self):
        """Bottoms of two pieces that go away in the sum are still there."""
        both = blend((total(2, 1, 1, 2), 1), (total(2, 1, 1, 4), -1), (total(2, 1, 1, 3), 2))
        self.gives(False, does_keep, both, 2)
        same = blend((form(E8), (1, 3)), (total(4, 1, 1), -80))
        self.assertEqual(set(terms_to(same, 4)), {0})
        self.gives(False, does_keep, same, 3)
        self.gives(True, does_keep, same, 2)
        self.gives(True, does_keep, same, 5)

    def test_poles(self):
        for modulus in MODULI:
            self.gives(False, does_keep, POLE, modulus)
            self.refuses_thing(NoRemainders, POLE, remainder_at, POLE, 0, modulus)
            self.gives(True, does_keep, blend((product(), 1)), modulus)

    def test_errors(self):
        for thing in NO_BLENDS:
            self.refuses_thing(BadBlend, thing, does_keep, thing, 5)
            self.refuses_thing(BadBlend, thing, does_keep, thing, 1)
        for thing in NO_MODULI:
            self.refuses_thing(BadModulus, thing, does_keep, DELTA, thing)
            self.refuses_thing(BadModulus, thing, does_keep, POLE, thing)


class RemainderTest(CallCase):
    def test_by_the_words(self):
        found = 0
        for blended in BLENDS + [EISEN, DELTA, FOUR, FIVE, scaled(DELTA, (-3, 7))]:
            terms = terms_to(blended, 4)
            for modulus in MODULI[:12:2]:
                if told_keep(blended, modulus):
                    found += 1
                    for n, term in enumerate(terms):
                        self.assertEqual(remainder_at(blended, n, modulus), told_remainder(term, modulus))
                    self.gives(told_remainder(terms[3], modulus), remainder_at, blended, 3, modulus)
        self.assertGreater(found, 100)

    def test_fractions(self):
        half = scaled(DELTA, (1, 2))
        for modulus in (3, 5, 7, 999):
            self.gives((modulus + 1) // 2, remainder_at, half, 1, modulus)
            self.gives((modulus - 12) % modulus, remainder_at, half, 2, modulus)
        self.gives(0, remainder_at, half, 0, 3)
        minus = scaled(DELTA, (-1, 1))
        self.gives(999, remainder_at, minus, 1, 1000)
        self.gives(24, remainder_at, minus, 2, 1000)
        self.gives(told_remainder(Fraction(691, 65520), 691), remainder_at, TWELVE, 0, 691)

    def test_far(self):
        terms = fractions_of(blend_terms(FIVE, 0, 301))
        for n in (0, 1, 5, 100, 299, 300):
            for modulus in (2, 5, 1000):
                self.gives(told_remainder(terms[n], modulus), remainder_at, FIVE, n, modulus)

    def test_errors(self):
        for thing in NO_BLENDS:
            self.refuses_thing(BadBlend, thing, remainder_at, thing, 1, 5)
            self.refuses_thing(BadBlend, thing, remainder_at, thing, None, None)
        for thing in NO_MODULI:
            self.refuses_thing(BadModulus, thing, remainder_at, DELTA, 1, thing)
            self.refuses_thing(BadModulus, thing, remainder_at, TWELVE, -1, thing)
        for thing in NO_PLACES:
            self.refuses_thing(BadNumber, thing, remainder_at, DELTA, thing, 5)
            self.refuses_thing(NoRemainders, TWELVE, remainder_at, TWELVE, thing, 5)
            self.refuses_thing(BadModulus, 1, remainder_at, TWELVE, thing, 1)


class DivisibleTest(CallCase):
    def test_examples(self):
        self.assertEqual([judge_divisible(FIVE, 5, 5), judge_divisible(SEVEN, 7, 7), judge_divisible(FIVE, 1, 5),
                          judge_divisible(FIVE, 5, 25)], [("divisible", 1), ("divisible", 2), ("term", 1), ("term", 1)])

    def test_partitions(self):
        """Point 10.4, by a table of the counts of partitions that is made part by part."""
        counts = [1] + [0] * 400
        for size in range(1, 401):
            for n in range(size, 401):
                counts[n] += counts[n - size]
        for blended, p, left in ((FIVE, 5, 4), (SEVEN, 7, 5), (OUGHT_ELEVEN, 11, 6)):
            self.assertEqual(judge_divisible(blended, p, p)[0], "divisible")
            self.assertTrue(all(counts[p * n + left] % p == 0 for n in range(30)))
            terms = fractions_of(blend_terms(blended, 0, 300))
            start = (p * p - 1) // 24
            powers = self.powers(p, 300 // p)
            for n in range(290 // p):
                made = sum([counts[p * i - start] * powers[n - i] for i in range(n + 1) if p * i >= start])
                self.assertEqual(terms[p * n], made)

    def powers(self, p, most):
        """The terms of the product of all (1 - q ** n) ** p, one factor after the other."""
        terms = [1] + [0] * most
        for size in range(1, most + 1):
            for _ in range(p):
                terms = [term - (terms[at - size] if at >= size else 0) for at, term in enumerate(terms)]
        return terms

    def test_by_the_words(self):
        kinds = {"divisible": 0, "term": 0}
        for blended in BLENDS + [FIVE, SEVEN, OUGHT_ELEVEN, DELTA, EISEN, scaled(DELTA, (10, 3)),
                                 blend((total(4, 1, 1), 240))]:
            level = told_blend_facts(blended)[1]
            for stride in (1, 2, 3, 5, 12):
                wide = wide_level(level, stride)
                most = stride * (told_blend_facts(blended)[0] * told_index(wide) // 12)
                if wide > 400 or most > 300 or not is_near(blended, most):
                    continue
                for modulus in (2, 5, 8):
                    if not told_keep(blended, modulus):
                        continue
                    place, apart = told_divisible(blended, stride, modulus)
                    told = judge_divisible(blended, stride, modulus)
                    kinds[told[0]] += 1
                    self.assertTrue(told_holds(told, apart, place, ("divisible", "term")))
                    self.gives(told, judge_divisible, blended, stride, modulus)
                    self.gives(True, divisible_holds, blended, stride, modulus, told)
                    for n in (0, place):
                        for word in ("divisible", "term"):
                            self.assertIs(divisible_holds(blended, stride, modulus, (word, n)),
                                          told_holds((word, n), apart, place, ("divisible", "term")))
        self.assertGreater(min(kinds.values()), 20)

    def test_far_beyond_the_place(self):
        """The kept ones stay kept."""
        found = 0
        for blended in [FIVE, SEVEN, OUGHT_ELEVEN, scaled(DELTA, (10, 1)), EISEN, scaled(DELTA, (24, 1)), TWELVE,
                        DELTA]:
            for stride in (1, 2, 3, 5, 7, 11):
                for modulus in (2, 3, 4, 5, 7, 8, 9, 11, 24):
                    if told_keep(blended, modulus):
                        if wide_level(told_blend_facts(blended)[1], stride) * stride > 300:
                            continue
                        if judge_divisible(blended, stride, modulus)[0] == "divisible":
                            found += 1
                            terms = terms_to(blended, 390)
                            self.assertEqual([terms[n].numerator % modulus for n in range(0, 391, stride)],
                                             [0] * (390 // stride + 1))
        self.assertGreater(found, 20)

    def test_known(self):
        # The terms of Ramanujan's row at even n are divisible by 8, at multiples of 3, 5, 7 by these.
        for stride, modulus, expected in ((2, 8, True), (3, 9, True), (5, 5, True), (7, 7, True), (2, 16, False),
                                          (3, 27, False),
                                          (11, 11, False), (1, 2, False), (6, 72, True), (4, 64, True),
                                          (4, 128, False)):
            told = judge_divisible(DELTA, stride, modulus)
            place, apart = told_divisible(DELTA, stride, modulus)
            self.assertEqual(told[0] == "divisible", expected, (stride, modulus))
            self.assertTrue(told_holds(told, apart, place, ("divisible", "term")))
            self.gives(told, judge_divisible, DELTA, stride, modulus)

    def test_all_certificates_of_a_few(self):
        for blended, stride, modulus in ((FIVE, 5, 5), (FIVE, 1, 5), (FIVE, 5, 25), (DELTA, 2, 8), (DELTA, 2, 16),
                                         (EISEN, 3, 7),
                                         (blend((product(), 6)), 60, 6), (blend((product(), 6)), 60, 12)):
            place, apart = told_divisible(blended, stride, modulus)
            rights = 0
            for thing in things_near(place, ("divisible", "term"), judge_divisible(blended, stride, modulus)):
                expected = told_holds(thing, apart, place, ("divisible", "term"))
                rights += expected
                self.gives(expected, divisible_holds, blended, stride, modulus, thing)
            self.assertGreater(rights, 0)

    def test_levels(self):
        prime = blend((total(2, 1, 1, 397), 1))
        for stride in (2, 3, 60):
            wide = wide_level(397, stride)
            self.refuses_thing(BadLevel, wide, judge_divisible, prime, stride, 5)
            self.refuses_thing(BadLevel, wide, divisible_holds, prime, stride, 5, ("divisible", 0))
        self.refuses_thing(BadLevel, 590, judge_divisible, blend((total(2, 5, 1, 59), 1)), 2, 7)
        # A level of 400 is none too great.
        great = blend((total(2, 5, 1, 80), 1))
        self.assertEqual(told_blend_facts(great)[1], 400)
        self.assertEqual(judge_divisible(great, 1, 7)[0], "term")
        self.refuses_thing(BadLevel, 1200, judge_divisible, great, 3, 7)
        self.refuses_thing(BadLevel, 1200, judge_divisible, great, 30, 7)
        self.assertEqual(judge_divisible(blend((total(2, 5, 1), 1)), 1, 2)[0], "term")
        # The strides 1 and 60, and the moduli 2 and 1,000.
        constant = blend((product(), 1000))
        self.gives(("divisible", 0), judge_divisible, constant, 60, 1000)
        self.gives(("divisible", 0), judge_divisible, constant, 1, 2)
        self.gives(("term", 0), judge_divisible, constant, 60, 999)
        wide = blend((product((1, 1), (23, 1)), 1))
        self.assertEqual(wide_level(23, 13), 299)
        place, apart = told_divisible(wide, 13, 3)
        self.assertTrue(told_holds(judge_divisible(wide, 13, 3), apart, place, ("divisible", "term")))

    def test_errors(self):
        for function, rest in ((judge_divisible, ()), (divisible_holds, (("divisible", 1),)),
                               (divisible_holds, (None,))):
            for thing in NO_BLENDS:
                self.refuses_thing(BadBlend, thing, function, thing, 5, 5, *rest)
                self.refuses_thing(BadBlend, thing, function, thing, 0, 0, *rest)
            for thing in NO_STRIDES:
                self.refuses_thing(BadNumber, thing, function, FIVE, thing, 5, *rest)
                self.refuses_thing(BadNumber, thing, function, TWELVE, thing, 1, *rest)
            for thing in NO_MODULI:
                self.refuses_thing(BadModulus, thing, function, FIVE, 5, thing, *rest)
                self.refuses_thing(BadModulus, thing, function, POLE, 5, thing, *rest)
            self.refuses_thing(NoRemainders, TWELVE, function, TWELVE, 1, 5, *rest)
            self.refuses_thing(NoRemainders, POLE, function, POLE, 1, 5, *rest)
            far = blend((total(2, 1, 1, 397), (1, 5)))
            self.refuses_thing(NoRemainders, far, function, far, 2, 5, *rest)


class AlikeTest(CallCase):
    def test_examples(self):
        self.assertEqual([judge_alike(DELTA, TWELVE, 691), judge_alike(DELTA, TWELVE, 11)],
                         [("alike", 1), ("apart", 0)])

    def pairs(self):
        found = []
        for some in POOL.values():
            smooth = [piece for piece in some if is_told_smooth(((piece, (1, 1)),
                                                                 )) and told_blend_facts(((piece, (1, 1)),))[1] < 13]
            for one in smooth:
                for other in smooth:
                    if is_near(((one, 1), (other, 1)), 10):
                        found.append((((one, (1, 1)),), ((other, (1, 1)),)))
        maker = random.Random(102)
        for one, other in EQUAL:
            if is_told_smooth(one + other):
                found.append((one, other))
                found.append((scaled(one, told_number(maker)), other))
                found.append((scaled(one, (6, 1)), scaled(other, (-1, 1))))
        return found

    def test_by_the_words(self):
        kinds = {"alike": 0, "apart": 0}
        for one, other in self.pairs():
            weight, level, sign = told_blend_facts(one)
            place = weight * told_index(lcm(level, told_blend_facts(other)[1])) // 12
            if place > 30 or not is_near(one + other, place):
                continue
            for modulus in (2, 5, 12):
                if told_keep(one, modulus) and told_keep(other, modulus):
                    place, apart = told_alike(one, other, modulus)
                    told = judge_alike(one, other, modulus)
                    kinds[told[0]] += 1
                    self.assertTrue(told_holds(told, apart, place, ("alike", "apart")))
                    self.gives(told, judge_alike, one, other, modulus)
                    self.gives(told, judge_alike, other, one, modulus)
                    self.gives(True, alike_holds, one, other, modulus, told)
                    for n in (0, place):
                        for word in ("alike", "apart"):
                            self.assertIs(alike_holds(one, other, modulus, (word, n)),
                                          told_holds((word, n), apart, place, ("alike", "apart")))
        self.assertGreater(min(kinds.values()), 40)

    def test_far_beyond_the_place(self):
        """The terms of Ramanujan's row are alike by 691 to the sums of the eleventh powers."""
        sums = [sum([d ** 11 for d in range(1, n + 1) if n % d == 0]) for n in range(1, 150)]
        terms = terms_to(DELTA, 150)
        self.assertEqual([(terms[n] - sums[n - 1]) % 691 for n in range(1, 150)], [0] * 149)
        for one, other, modulus in ((DELTA, TWELVE, 691), (ELEVEN, blend((total(2, 1, 1, 11), 1)), 5),
                                    (EISEN, blend((total(4, 1, 1, 2), 240)), 240)):
            self.assertEqual(judge_alike(one, other, modulus)[0], "alike", (one, other, modulus))
            left, right = terms_to(one, 200), terms_to(other, 200)
            self.assertEqual([n for n in range(201) if (left[n] - right[n]).numerator % modulus != 0], [])

    def test_all_certificates_of_a_few(self):
        for one, other, modulus in ((DELTA, TWELVE, 691), (DELTA, TWELVE, 11),
                                    (ELEVEN, blend((total(2, 1, 1, 11), 1)), 5),
                                    (ELEVEN, blend((total(2, 1, 1, 11), 1)), 7), (FOUR, FOUR, 1000),
                                    (blend((product(), 1)), blend((product(), 7)), 6),
                                    (blend((product(), 1)), blend((product(), 7)), 5)):
            place, apart = told_alike(one, other, modulus)
            rights = 0
            for thing in things_near(place, ("alike", "apart"), judge_alike(one, other, modulus)):
                expected = told_holds(thing, apart, place, ("alike", "apart"))
                rights += expected
                self.gives(expected, alike_holds, one, other, modulus, thing)
            self.assertGreater(rights, 0)

    def test_errors(self):
        five = blend((total(2, 1, 5), 1))
        half = scaled(FOUR, (1, 5))
        for function, rest in ((judge_alike, ()), (alike_holds, (("alike", 1),)), (alike_holds, (None,))):
            for thing in NO_BLENDS:
                self.refuses_thing(BadBlend, thing, function, thing, FOUR, 5, *rest)
                self.refuses_thing(BadBlend, thing, function, FOUR, thing, 5, *rest)
                self.refuses_thing(BadBlend, thing, function, DELTA, thing, 1, *rest)
                self.refuses_thing(BadBlend, thing, function, thing, None, 5, *rest)
            self.refuses_thing(OtherSign, FOUR, function, five, FOUR, 1, *rest)
            self.refuses_thing(OtherWeight, DELTA, function, five, DELTA, 1, *rest)
            self.refuses_thing(OtherSign, five, function, FOUR, five, 1, *rest)
            for thing in NO_MODULI:
                self.refuses_thing(BadModulus, thing, function, FOUR, FOUR, thing, *rest)
                self.refuses_thing(BadModulus, thing, function, half, half, thing, *rest)
            self.refuses_thing(NoRemainders, half, function, half, FOUR, 5, *rest)
            self.refuses_thing(NoRemainders, half, function, FOUR, half, 5, *rest)
            other = scaled(FOUR, (2, 5))
            self.refuses_thing(NoRemainders, other, function, other, half, 5, *rest)
            self.refuses_thing(NoRemainders, half, function, half, other, 5, *rest)
            one, two = blend((total(4, 1, 1, 17), 240)), blend((total(4, 1, 1, 25), 240))
            self.refuses_thing(BadLevel, 425, function, one, two, 5, *rest)
            self.refuses_thing(NoRemainders, scaled(two, (1, 7)), function, one, scaled(two, (1, 7)), 7, *rest)
            self.refuses_thing(BadModulus, 1001, function, one, two, 1001, *rest)
