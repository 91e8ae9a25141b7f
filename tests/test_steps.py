"""Points 9.1 and 9.2: steps of primes, and rows that they lead to multiples."""
import random
from fractions import Fraction

from firstterms.blends import added_blends, blend_terms, scaled
from firstterms.errors import BadBlend, BadCount, BadPrime, BadWeight, HasPole
from firstterms.steps import judge_step, step_holds, step_terms
from tests.helpers import (
    HUGE, NO_COUNTS, NO_INTEGERS, CallCase, beginning_of, fractions_of, is_int, pair, spoiled, told_value)
from tests.pool import blend, form, product, some_blends, told_blend_facts, told_index, told_number, told_row, total
from tests.test_blends import DELTA, EISEN, FOUR, NO_BLENDS, POLE, is_told_smooth
from tests.test_equal import EQUAL
from tests.test_forms import D4, SQUARES, THREE

PRIMES = (2, 3, 5, 7, 11, 13, 17, 19, 23, 29, 31, 37, 41, 43, 47, 53, 59, 61, 67, 71, 73, 79, 83, 89, 97)
NO_PRIMES = NO_INTEGERS + (0, 1, -1, -2, -97, 4, 6, 9, 25, 49, 77, 87, 91, 99, 100, 101, 103, HUGE, (2,), "2", (2, 1),
                           2 ** 89 - 1)
ELEVEN, SMALL = blend((product((1, 2), (11, 2)), 1)), blend((total(4, 1, 1), 1))
NOUGHT = [added_blends(one, scaled(other, (-1, 1))) for one, other in EQUAL]
# Blends that each prime leads to a multiple: known as such, with the multiple for a few primes.
LED = (
    (ELEVEN, {2: -2, 3: -1, 5: 1, 7: -2, 11: 1, 13: 4}), (SMALL, {2: 9, 3: 28, 5: 126, 97: 1 + 97 ** 3}),
    (EISEN, {2: 9}), (DELTA, {2: -24, 3: 252, 5: 4830, 7: -16744}),
    (blend((total(12, 1, 1), (3, 5))), {2: 2049, 5: 1 + 5 ** 11}),
    (blend((total(1, -4, 1), 4)), {2: 1, 3: 0, 5: 2, 7: 0, 13: 2}), (blend((form(SQUARES[0]), 1)), {2: 1, 3: 0, 5: 2}),
    (blend((product((4, 6)), 1)), {2: 0, 3: 0, 5: -6, 13: 10}),
    (blend((product((1, 1), (23, 1)), 1)), {2: -1, 3: -1, 5: 0, 23: 1}),
    (blend((total(3, -4, 1), 1)), {2: 4, 3: 8, 5: 26}), (blend((total(3, 1, -4), 1)), {2: 1, 3: -8, 5: 26}),
    (blend((total(2, 1, 1, 2), 24)), {2: 1, 3: 4, 5: 6}), (blend((total(2, 5, 1), 1)), {2: 1, 3: 2, 5: 5}),
    (blend((product((2, 4), (4, 4)), 1)), {2: 0, 3: -4, 5: -2, 7: 24}), (blend((form(THREE), 1)), {2: 0, 3: 1, 7: 2}),
)


def told_step(blended, prime, most):
    """Point 9.1, term by term from the row, up to most."""
    weight, level, sign = told_blend_facts(blended)
    row = told_row(blended, prime * most)
    step = []
    for n in range(most + 1):
        term = row.get(prime * n, Fraction(0))
        if level % prime != 0 and n % prime == 0:
            term += told_value(sign, prime) * prime ** (weight - 1) * row.get(n // prime, Fraction(0))
        step.append(term)
    return step


def told_most(blended):
    weight, level, sign = told_blend_facts(blended)
    return weight * told_index(level) // 12


def told_pair(blended, prime):
    """The terms of the blend and of its step up to P."""
    most = told_most(blended)
    row = told_row(blended, most)
    return [row.get(n, Fraction(0)) for n in range(most + 1)], told_step(blended, prime, most)


def told_holds(row, step, thing):
    """Point 9.2, word by word."""
    if not isinstance(thing, tuple) or len(thing) < 2:
        return False
    if thing[0] == "multiple" and len(thing) == 2 and isinstance(thing[1], tuple) and len(thing[1]) == 2:
        if not is_int(thing[1][0]) or not is_int(thing[1][1]) or thing[1][1] < 1:
            return False
        return step == [Fraction(*thing[1]) * term for term in row]
    if thing[0] != "not" or len(thing) != 3 or not is_int(thing[1]) or not is_int(thing[2]):
        return False
    if not 0 <= thing[1] < thing[2] < len(row):
        return False
    return step[thing[1]] * row[thing[2]] != step[thing[2]] * row[thing[1]]


def is_near(blended, most):
    """Whether the limits of part 7 let the terms up to most be asked for."""
    unknowns = [len(piece[1]) for piece, number in blended if piece[0] == "form"]
    return most <= {2: 399, 4: 40, 6: 10, 8: 4}[max(unknowns, default=2)]


def smooth_blends():
    """Blends by chance, all smooth and of weights from 1 on, with small places."""
    found = []
    for blended in some_blends(random.Random(91), 12):
        if is_told_smooth(blended) and told_blend_facts(blended)[0] > 0 and told_most(blended) <= 30:
            found.append(blended)
    return found


class StepTermsTest(CallCase):
    def test_examples(self):
        self.gives((1, (0, -1, 2, 1)), step_terms, ELEVEN, 3, 4)

    def test_by_the_words(self):
        divided = 0
        for blended in smooth_blends():
            for prime in (2, 3, 5, 11, 97):
                for many in (1, 4, 13):
                    if prime * many <= 400 and is_near(blended, prime * (many - 1)):
                        divided += told_blend_facts(blended)[1] % prime == 0
                        self.gives(beginning_of(told_step(blended, prime, many - 1)), step_terms, blended, prime, many)
        self.assertGreater(divided, 50)

    def test_from_blend_terms(self):
        for blended, prime, level, factor in ((DELTA, 5, 1, 5 ** 11), (EISEN, 2, 1, 8),
                                              (blend((total(3, 1, -4), 1)), 3, 4, -9),
                                              (blend((total(2, 1, 5), 1)), 7, 5, -7),
                                              (blend((total(2, 1, 5), 1)), 5, 5, 0)):
            terms = fractions_of(blend_terms(blended, 0, 20 * prime))
            step = [terms[prime * n] + (factor * terms[n // prime] if n % prime == 0 else 0) for n in range(20)]
            self.gives(beginning_of(step), step_terms, blended, prime, 20)

    def test_two_primes_in_both_orders(self):
        """The step by one prime of the step by another, both for the level of the blend."""
        for blended in smooth_blends():
            weight, level, sign = told_blend_facts(blended)
            for one, other in ((2, 3), (2, 5), (3, 5), (2, 11)):
                if not is_near(blended, one * other * 8):
                    continue
                made = []
                for first, then in ((one, other), (other, one)):
                    step = fractions_of(step_terms(blended, first, 8 * then + 1))
                    factor = 0 if level % then == 0 else told_value(sign, then) * then ** (weight - 1)
                    made.append([step[then * n] + (factor * step[n // then] if n % then == 0 else 0) for n in range(9)])
                self.assertEqual(made[0], made[1])

    def test_edges(self):
        self.gives((1, (0,)), step_terms, DELTA, 97, 1)
        self.gives((1, (0, 0, 0, 0)), step_terms, blend((product((4, 6)), 1)), 2, 4)
        terms = fractions_of(blend_terms(DELTA, 0, 4 * 97 + 1))
        self.gives(beginning_of([terms[97 * n] for n in range(5)]), step_terms, DELTA, 97, 5)
        wide = step_terms(SMALL, 2, 40)
        self.assertEqual(len(wide[1]), 40)
        wide = [9 * term for term in fractions_of(blend_terms(SMALL, 0, 40))]
        self.gives(beginning_of(wide), step_terms, SMALL, 2, 40)


class JudgeStepTest(CallCase):
    def test_examples(self):
        self.assertEqual([judge_step(ELEVEN, 2), judge_step(SMALL, 3), step_holds(ELEVEN, 2, ("not", 0, 1))],
                         [("multiple", (-2, 1)), ("multiple", (28, 1)), False])

    def test_known_multiples(self):
        for blended, multiples in LED:
            for prime, number in multiples.items():
                self.gives(("multiple", (number, 1)), judge_step, blended, prime)
                self.gives(("multiple", (number, 1)), judge_step, scaled(blended, (-5, 7)), prime)
                for top, bottom, expected in ((number, 1, True), (3 * number, 3, True), (HUGE * number, HUGE, True),
                                              (number + 1, 1, False), (2 * number + 1, 2, False),
                                              (-number, 1, number == 0)):
                    self.gives(expected, step_holds, blended, prime, ("multiple", (top, bottom)))
                for m, n in ((0, 1), (1, 2), (0, 0)):
                    self.gives(False, step_holds, blended, prime, ("not", m, n))

    def test_multiples_far_beyond_the_place(self):
        for blended, multiples in LED:
            for prime, number in multiples.items():
                many = 1 + (399 if is_near(blended, 399) else 0) // prime
                row = told_row(blended, many)
                self.assertEqual(fractions_of(step_terms(blended, prime, many)),
                                 [number * row.get(n, 0) for n in range(many)])

    def test_led_by_one_prime_and_not_by_another(self):
        mixed = blend((total(2, 1, 1, 11), 1), (product((1, 2), (11, 2)), 1))
        # The primes 11 leads both by the same multiple.
        self.gives(("multiple", (1, 1)), judge_step, mixed, 11)
        for prime in (2, 3, 5, 7, 13, 97):
            told = judge_step(mixed, prime)
            self.assertEqual(told[0], "not")
            self.assertTrue(told_holds(*told_pair(mixed, prime), told))
            self.gives(told, judge_step, mixed, prime)
        wide = blend((total(4, 1, 1), 1), (total(4, 1, 1, 2), 1))
        self.assertEqual(judge_step(wide, 2)[0], "not")
        self.gives(("multiple", (28, 1)), judge_step, wide, 3)
        self.gives(("multiple", (126, 1)), judge_step, wide, 5)
        both = blend((product((1, 24)), 1), (total(12, 1, 1), 1))
        for prime in (2, 3, 5, 7, 11, 97):
            self.gives(("not", 0, 1), judge_step, both, prime)

    def test_by_chance(self):
        maker = random.Random(93)
        kinds = {"multiple": 0, "not": 0}
        for blended in smooth_blends():
            for prime in (2, 3, 5, 13):
                if prime * told_most(blended) > 399 or not is_near(blended, prime * told_most(blended)):
                    continue
                row, step = told_pair(blended, prime)
                told = judge_step(blended, prime)
                kinds[told[0]] += 1
                self.assertTrue(told_holds(row, step, told), (blended, prime))
                self.gives(told, judge_step, blended, prime)
                self.gives(True, step_holds, blended, prime, told)
                for _ in range(9):
                    m, n = maker.randint(-1, len(row)), maker.randint(-1, len(row))
                    for thing in (("not", m, n), ("multiple", (m, max(n, 1)))):
                        self.assertIs(step_holds(blended, prime, thing), told_holds(row, step, thing))
        self.assertGreater(min(kinds.values()), 15)

    def test_rows_of_nought(self):
        some = [row for row in NOUGHT if is_told_smooth(row) and told_blend_facts(row)[0] > 0]
        some = [row for row in some if is_near(row, 5 * told_most(row))]
        self.assertGreater(len(some), 8)
        for row in some:
            for prime in (2, 3, 5):
                told = judge_step(row, prime)
                self.assertEqual(told[0], "multiple")
                self.assertEqual(told[1], pair(Fraction(*told[1])))
                self.gives(told, judge_step, row, prime)
                self.gives(True, step_holds, row, prime, told)
                for number in ((0, 1), (7, 3), (-HUGE, 5), (14, 6)):
                    self.gives(True, step_holds, row, prime, ("multiple", number))
                for thing in (("multiple", (1, 0)), ("multiple", 1), ("not", 0, 1), ("not", 0, told_most(row))):
                    self.gives(False, step_holds, row, prime, thing)

    def test_places(self):
        self.gives(("multiple", (9, 1)), judge_step, SMALL, 2)
        self.assertEqual(told_most(SMALL), 0)
        self.gives(("multiple", (1 + 97 ** 23, 1)), judge_step, blend((total(24, 1, 1), 1)), 97)
        great = blend((total(2, 1, 1, 75), 1))
        self.assertEqual(told_most(great), 20)
        self.assertTrue(told_holds(*told_pair(great, 19), judge_step(great, 19)))
        great = blend((total(4, 1, 1, 59), 1), (total(4, 1, 1), 1))
        self.assertEqual(told_most(great), 20)
        self.assertTrue(told_holds(*told_pair(great, 17), judge_step(great, 17)))
        great = blend((total(3, -4, 1, 15), 1), (total(3, 1, -4), 1))
        self.assertEqual(told_most(great), 36)
        low = blend((total(2, 1, 1, 90), 1))
        self.assertEqual(told_most(low), 36)

    def test_all_certificates_of_a_few(self):
        mixed = blend((total(2, 1, 1, 11), 1), (product((1, 2), (11, 2)), 1))
        for blended, prime in ((ELEVEN, 2), (mixed, 2), (mixed, 11), (DELTA, 3), (FOUR, 2), (FOUR, 3), (SMALL, 2),
                               (blend((form(D4), (1, 24))), 5),
                               (blend((product((1, 24)), 1), (total(12, 1, 1), 1)), 2)):
            row, step = told_pair(blended, prime)
            told = judge_step(blended, prime)
            more = [(word, m, n) for word in ("not", "multiple", "Not") for m in range(-1, 4) for n in range(-1, 4)]
            more += [("multiple", (m, n)) for m in range(-3, 12) for n in range(-1, 3)]
            more += [("not", False, True), ("not", 0, True), ("not", (0, 1)), ("multiple", 1, 1), ("not", "0", "1"), (),
                     None]
            more += [("multiple", (True, 1)), ("multiple", (1, True)), ("multiple", [1, 1]), ["not", 0, 1],
                     ("not", 0, HUGE)]
            rights = 0
            for thing in list(spoiled(told)) + more + [told]:
                expected = told_holds(row, step, thing)
                rights += expected
                self.gives(expected, step_holds, blended, prime, thing)
            self.assertGreater(rights, 0)


class ErrorTest(CallCase):
    FUNCTIONS = ((judge_step, ()), (step_holds, (("multiple", (1, 1)),)), (step_holds, (None,)), (step_terms, (4,)),
                 (step_terms, (0,)), (step_terms, (None,)))

    def refused(self, error, thing, *args):
        for function, rest in self.FUNCTIONS:
            self.refuses_thing(error, thing, function, *args, *rest)

    def test_no_blends(self):
        for thing in NO_BLENDS:
            self.refused(BadBlend, thing, thing, 2)
            self.refused(BadBlend, thing, thing, 4)

    def test_poles_and_weights(self):
        half_pole = blend((product((1, 40), (2, -32)), 1), (total(4, 1, 1), 1))
        for thing in (POLE, half_pole, blend((product((1, -24)), 1)),
                      blend((product(), 1), (product((1, 24), (2, -24)), 1)),
                      blend((product((1, -1), (2, 2), (23, -1), (46, 2)), 1)), blend((product((1, 48), (2, -24)), 1))):
            if told_blend_facts(thing) is not None and not is_told_smooth(thing):
                for prime in (2, 4, None):
                    self.refused(HasPole, thing, thing, prime)
        self.assertFalse(is_told_smooth(half_pole) or is_told_smooth(POLE))
        for thing in (blend((product(), 1)), blend((product(), (-3, 2)))):
            for prime in (2, 4, None):
                self.refused(BadWeight, 0, thing, prime)

    def test_primes(self):
        for prime in PRIMES:
            self.gives(beginning_of(told_step(ELEVEN, prime, 1)), step_terms, ELEVEN, prime, 2)
            if told_most(ELEVEN) * prime < 400:
                self.assertEqual(judge_step(ELEVEN, prime)[0], "multiple")
        for thing in NO_PRIMES + tuple([n for n in range(-10, 130) if n not in PRIMES]):
            self.refused(BadPrime, thing, ELEVEN, thing)

    def test_counts(self):
        for thing in NO_COUNTS:
            self.refuses_thing(BadCount, thing, step_terms, ELEVEN, 2, thing)
            self.refuses_thing(BadPrime, 1, step_terms, ELEVEN, 1, thing)

    def test_numbers_of_blends_may_be_any(self):
        maker = random.Random(92)
        for blended, multiples in LED:
            number = told_number(maker)
            self.assertEqual(judge_step(scaled(blended, number), min(multiples)), judge_step(blended, min(multiples)))
