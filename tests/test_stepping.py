"""Points 9.3 and 9.4: stepping rows, and their far terms."""
import random

from firstterms.blends import added_blends, blend_terms, scaled
from firstterms.errors import BadBlend, BadNumber, BadWeight, HasPole, NotStepping
from firstterms.stepping import far_term, judge_stepping, stepping_holds
from tests.helpers import HUGE, NO_INTEGERS, CallCase, fractions_of, is_int, pair, prime_divisors, spoiled, told_value
from tests.pool import blend, product, told_blend_facts, told_row, total
from tests.test_blends import DELTA, EISEN, FOUR, NO_BLENDS, POLE, is_told_smooth
from tests.test_equal import EQUAL
from tests.test_steps import ELEVEN, PRIMES, SMALL, is_near, smooth_blends, told_most, told_step

# Rows that are known to be stepping.
STEPPING = (
    ELEVEN, DELTA, blend((product((4, 6)), 1)), blend((product((1, 1), (23, 1)), 1)),
    blend((product((2, 4), (4, 4)), 1)), blend((product((1, 4), (5, 4)), 1)), blend((product((1, 8), (2, 8)), 1)),
    blend((product((3, 8)), 1)), blend((product((6, 4)), 1)), blend((product((1, 1), (2, 1), (7, 1), (14, 1)), 1)),
    blend((product((1, 1), (3, 1), (5, 1), (15, 1)), 1)), blend((product((1, 3), (7, 3)), 1)),
    blend((total(2, 5, 1), 1)), blend((total(3, -4, 1), 1)), blend((total(3, -3, 1), 1)), blend((total(4, 5, 5), 1)),
    blend((total(2, -3, -3), 1)), blend((total(2, -4, -4), 1)), blend((total(3, -8, 1), 1)),
    blend((product((1, -1), (5, 5)), 1)), blend((product((1, -3), (3, 9)), 1)), blend((product((2, -4), (4, 8)), 1)),
    blend((product((1, 6), (3, 6)), 1)), blend((product((1, 2), (2, 1), (4, 1), (8, 2)), 1)),
    blend((total(4, 1, 1), 1), (total(4, 1, 1, 2), -1)), blend((total(4, 1, 1), 1), (total(4, 1, 1, 3), -1)),
    blend((product((2, 1), (4, 1), (6, 1), (12, 1)), 1)), blend((product((3, 2), (9, 2)), 1)),
)
# Rows that begin with 0 and 1, but are not stepping.
OTHERS = (
    blend((product((1, 24)), 1), (product((2, 24)), 1)), blend((product((1, 24)), 1), (product((2, 24)), (1, 3))),
    blend((total(2, 1, 1, 2), (6, 5)), (total(2, 1, 1, 7), (-1, 5))),
    blend((total(2, 1, 1, 2), 2), (total(2, 1, 1, 3), -1)),
    blend((total(4, 1, 1), 1), (total(4, 1, 1, 2), 1), (total(4, 1, 1, 4), -2)),
    blend((product((1, 2), (11, 2)), 1), (product((2, 2), (22, 2)), 1)),
    blend((total(4, 1, 1), (1, 2)), (total(4, 1, 1, 5), (-1, 2)), (product((1, 4), (5, 4)), (1, 2))),
    blend((total(4, 1, 1), (1, 2)), (total(4, 1, 1, 2), (-1, 2)), (product((2, 4), (4, 4)), (1, 2))),
)


def terms_to(blended, most):
    row = told_row(blended, most)
    return [row.get(n, 0) for n in range(most + 1)]


def told_wrong(blended):
    """Points 9.1 and 9.3, word by word: the pairs (p, n) at which a step has not the term a_p a_n."""
    most = told_most(blended)
    terms = terms_to(blended, most)
    found = []
    for prime in [p for p in PRIMES if p <= most]:
        step = told_step(blended, prime, most)
        found += [(prime, n) for n in range(most + 1) if step[n] != terms[prime] * terms[n]]
    return found


def told_first(blended):
    terms = terms_to(blended, 1)
    return [n for n in (0, 1) if terms[n] != n]


def told_holds(first, wrong, most, thing):
    """Point 9.3: which values are certificates."""
    if not isinstance(thing, tuple) or len(thing) not in (2, 3) or not all(is_int(item) for item in thing[1:]):
        return False
    if len(thing) == 3:
        return thing[0] == "not" and thing[1:] in wrong
    if thing[0] == "first":
        return thing[1] in first
    return thing[0] == "steps" and thing[1] == most and not first and not wrong


def is_within(blended):
    most = told_most(blended)
    return most <= 20 and is_near(blended, max([p for p in PRIMES if p <= most], default=1) * most)


def told_far(blended, n):
    """Point 9.4: both rules, with the terms at primes from the row."""
    weight, level, sign = told_blend_facts(blended)
    value = 1
    primes = prime_divisors(n)
    for p in sorted(set(primes)):
        first = terms_to(blended, p)[p]
        terms = [1, first]
        while len(terms) <= primes.count(p):
            less = 0 if level % p == 0 else told_value(sign, p) * p ** (weight - 1) * terms[-2]
            terms.append(first * terms[-1] - less)
        value *= terms[primes.count(p)]
    return pair(value)


class SteppingTest(CallCase):
    def check_certificate(self, blended):
        told = judge_stepping(blended)
        first, wrong, most = told_first(blended), told_wrong(blended), told_most(blended)
        self.assertTrue(told_holds(first, wrong, most, told), (blended, told))
        self.gives(told, judge_stepping, blended)
        self.gives(True, stepping_holds, blended, told)
        for word in ("steps", "first", "not", "multiple"):
            for items in ((most,), (0,), (1,), (2,), (2, 0), (2, 1), (2, most), (3, most), (most, most), (most + 1,),
                          (most - 1,)):
                thing = (word,) + items
                self.assertIs(stepping_holds(blended, thing), told_holds(first, wrong, most, thing), (blended, thing))
        return told

    def test_examples(self):
        self.assertEqual([judge_stepping(ELEVEN), judge_stepping(SMALL), far_term(ELEVEN, 12), far_term(DELTA, 8)],
                         [("steps", 2), ("first", 0), (-2, 1), (84480, 1)])

    def test_known_to_be_stepping(self):
        for blended in STEPPING:
            self.assertTrue(is_within(blended), blended)
            self.gives(("steps", told_most(blended)), judge_stepping, blended)
            self.check_certificate(blended)

    def test_stepping_far_beyond_the_place(self):
        for blended in STEPPING:
            terms = terms_to(blended, 97)
            for prime in PRIMES[:9]:
                for n, term in enumerate(told_step(blended, prime, 97 // prime + 6)):
                    self.assertEqual(term, terms[prime] * terms[n])
            for prime in PRIMES:
                self.assertEqual(told_step(blended, prime, 2), [terms[prime] * term for term in terms[:3]])

    def test_not_stepping(self):
        for blended in OTHERS:
            if is_within(blended):
                self.assertEqual(told_first(blended), [])
                self.assertEqual(self.check_certificate(blended)[0], "not")
        self.assertGreater(len([blended for blended in OTHERS if is_within(blended)]), 5)

    def test_first_terms(self):
        self.gives(("first", 0), judge_stepping, EISEN)
        self.gives(("first", 0), judge_stepping, FOUR)
        for number in ((2, 1), (-1, 1), (1, 2)):
            self.gives(("first", 1), judge_stepping, scaled(ELEVEN, number))
            self.gives(False, stepping_holds, scaled(ELEVEN, number), ("first", 0))
        # Here both are wrong, so either of them is a right certificate.
        both = scaled(SMALL, (2, 1))
        for n, expected in ((0, True), (1, True), (2, False), (False, False), (True, False), (-1, False)):
            self.gives(expected, stepping_holds, both, ("first", n))
        for n, expected in ((0, True), (1, False)):
            self.gives(expected, stepping_holds, SMALL, ("first", n))
        self.gives(("first", 1), judge_stepping, blend((product((2, 24)), 1)))

    def test_a_not_beside_a_first(self):
        """The row need not begin with 0 and 1 for a certificate "not" to be right."""
        twice = scaled(ELEVEN, (2, 1))
        self.assertEqual(told_first(twice), [1])
        wrong = told_wrong(twice)
        self.assertIn((2, 1), wrong)
        for prime in (2, 3):
            for n in range(4):
                self.gives((prime, n) in wrong, stepping_holds, twice, ("not", prime, n))

    def test_places_of_nought(self):
        self.gives(("first", 0), judge_stepping, SMALL)
        self.assertEqual(told_most(SMALL), 0)
        third = [added_blends(one, scaled(other, (-1, 1))) for one, other in EQUAL]
        some = [row for row in third if is_told_smooth(row) and told_blend_facts(row)[0] > 0 and is_within(row)]
        self.assertGreater(len(some), 8)
        for row in some:
            self.gives(("first", 1), judge_stepping, row)
            self.gives(True, stepping_holds, row, ("first", 1))
            for thing in (("first", 0), ("steps", told_most(row)), ("not", 2, 0), ("not", 2, 1)):
                self.gives(False, stepping_holds, row, thing)
        # Where P is 1 there is no prime to be looked at.
        self.gives(("steps", 1), judge_stepping, DELTA)
        self.gives(False, stepping_holds, DELTA, ("not", 2, 1))

    def test_by_chance(self):
        kinds = {}
        for blended in smooth_blends():
            if is_within(blended):
                told = self.check_certificate(blended)
                kinds[told[0]] = kinds.get(told[0], 0) + 1
                terms = terms_to(blended, 1)
                if terms[1] != 0:
                    number = pair(1 / terms[1])
                    told = self.check_certificate(scaled(blended, number))
                    kinds[told[0]] = kinds.get(told[0], 0) + 1
        self.assertGreater(len(kinds), 2)

    def test_greatest_places(self):
        for blended, most in ((blend((total(2, 1, 1, 75), 1)), 20),
                              (blend((product((2, 1), (4, 1), (6, 1), (12, 1)), 1)), 8),
                              (blend((total(4, 1, 1, 59), 1), (total(4, 1, 1), 1)), 20)):
            self.assertEqual(told_most(blended), most)
            self.check_certificate(blended)

    def test_all_certificates_of_a_few(self):
        for blended in (ELEVEN, SMALL, scaled(ELEVEN, (2, 1)), OTHERS[0], DELTA, blend((product((2, 4), (4, 4)), 1))):
            first, wrong, most = told_first(blended), told_wrong(blended), told_most(blended)
            told = judge_stepping(blended)
            more = [("not", p, n) for p in range(-1, 6) for n in range(-1, most + 2)] + [("not", 2, True),
                ("not", True, 1)]
            more += [("steps", n) for n in (most, most + 1, True, None, (most,))] + [("first", n) for n in (0, 1, 2,
                True, False)]
            more += [("not", HUGE, 1), ("not", 2, HUGE), ("not", (2, 1)), ("not", 2), (), None, ["steps", most],
                     "steps"]
            for thing in list(spoiled(told)) + more:
                self.gives(told_holds(first, wrong, most, thing), stepping_holds, blended, thing)
            self.gives(True, stepping_holds, blended, told)


class FarTermTest(CallCase):
    def test_near_terms(self):
        for blended in STEPPING:
            terms = fractions_of(blend_terms(blended, 0, 150))
            for n in range(1, 150):
                if max(prime_divisors(n), default=1) < 100:
                    self.assertEqual(far_term(blended, n), pair(terms[n]), (blended, n))

    def test_by_the_rules(self):
        maker = random.Random(94)
        for blended in STEPPING:
            for most in (5, 11, 25):
                for _ in range(3):
                    n = 1
                    while n < 10 ** 30:
                        last, n = n, n * maker.choice(PRIMES[:most])
                    self.gives(told_far(blended, last), far_term, blended, last)

    def test_powers(self):
        for blended in STEPPING[:6] + STEPPING[12:16]:
            for n in (1, 2, 4, 2 ** 99, 3 ** 62, 97, 97 ** 2, 97 ** 15, 10 ** 30, 5 ** 40, 11 ** 28, 23 ** 20):
                self.gives(told_far(blended, n), far_term, blended, n)
        self.gives((1, 1), far_term, DELTA, 1)
        self.gives((0, 1), far_term, blend((product((4, 6)), 1)), 2 ** 50)
        self.gives((1, 1), far_term, ELEVEN, 11 ** 28)
        self.gives((-2 * -1, 1), far_term, ELEVEN, 6)

    def test_made_of_one_another(self):
        """a_(m n) = a_m a_n for m and n without a common divisor."""
        for blended in (ELEVEN, DELTA, STEPPING[2]):
            for m, n in ((2 ** 20, 3 ** 15), (97, 10 ** 20), (7 ** 9 * 13, 2 ** 30), (1, 89)):
                left, right = far_term(blended, m), far_term(blended, n)
                self.gives((left[0] * right[0], 1), far_term, blended, m * n)

    def test_known(self):
        # The term of the sums of x ** 2 times the value of -4 at n / x, at the powers of 2, is 4 to the power.
        for e in (1, 5, 60, 99):
            self.gives((4 ** e, 1), far_term, blend((total(3, -4, 1), 1)), 2 ** e)
        # And at a prime it is the value at the prime and its square.
        self.gives((9 - 1, 1), far_term, blend((total(3, -4, 1), 1)), 3)
        self.gives((97 ** 2 + 1, 1), far_term, blend((total(3, -4, 1), 1)), 97)


class ErrorTest(CallCase):
    FUNCTIONS = ((judge_stepping, ()), (stepping_holds, (("steps", 1),)), (stepping_holds, (None,)), (far_term, (1,)),
                 (far_term, (0,)), (far_term, (None,)))

    def refused(self, error, thing, blended):
        for function, rest in self.FUNCTIONS:
            self.refuses_thing(error, thing, function, blended, *rest)

    def test_blends(self):
        for thing in NO_BLENDS:
            self.refused(BadBlend, thing, thing)
        for thing in (POLE, blend((product((1, -24)), 1)), blend((product((1, 40), (2, -32)), 1), (total(4, 1, 1), 1)),
                      blend((product((1, -48), (2, 24)), 1))):
            self.refused(HasPole, thing, thing)
        for number in ((1, 1), (-3, 2)):
            self.refused(BadWeight, 0, blend((product(), number)))

    def test_not_stepping(self):
        for blended in (SMALL, EISEN, FOUR, scaled(ELEVEN, (2, 1)), OTHERS[0], OTHERS[1], OTHERS[6], OTHERS[5]):
            certificate = judge_stepping(blended)
            self.assertNotEqual(certificate[0], "steps")
            for n in (1, 0, -1, None, True, 101, HUGE):
                self.refuses(NotStepping, {"certificate": certificate}, far_term, blended, n)

    def test_numbers(self):
        for thing in NO_INTEGERS + (0, -1, -2, -HUGE, 101, 103, 2 * 101, 97 * 101, 10 ** 29 + 1, 2 ** 89 - 1, HUGE,
                                    101 ** 2,
                                    (2, 1), (2,), "2", 10 ** 30 * 101):
            self.refuses_thing(BadNumber, thing, far_term, ELEVEN, thing)
            self.refuses_thing(BadNumber, thing, far_term, DELTA, thing)
        for n in (1, 97, 96, 89 * 97, 10 ** 30):
            self.gives(told_far(ELEVEN, n), far_term, ELEVEN, n)
