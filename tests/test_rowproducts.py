"""Point 7.6: products of two rows, and the place of three blends."""
import random
from math import lcm

from firstterms.blends import added_blends, blend_terms, scaled
from firstterms.errors import BadBlend, BadLevel, OtherSign, OtherWeight
from firstterms.forms import beside
from firstterms.rowproducts import judge_times, place_of_three, times_hold
from tests.helpers import HUGE, CallCase, fractions_of
from tests.pool import (
    POOL, blend, form, product, some_blends, told_blend_facts, told_facts, told_least, told_lowest, told_number,
    told_place_for, told_row, told_sign_of, total, within_limits)
from tests.test_blends import DELTA, EISEN, FOUR, NO_BLENDS, ONE, POLE
from tests.test_equal import EQUAL, many_things, told_holds
from tests.test_forms import A4, D4, E8, SQUARES, THREE

NOUGHT = [added_blends(one, scaled(other, (-1, 1))) for one, other in EQUAL]
# Triples of blends of which the first two are known to make the third one.
KNOWN = [
    (EISEN, EISEN, blend((total(8, 1, 1), 480))),
    (EISEN, blend((total(6, 1, 1), -504)), blend((total(10, 1, 1), -264))),
    (EISEN, blend((total(10, 1, 1), -264)), blend((total(14, 1, 1), -24))),
    (blend((total(6, 1, 1), -504)), blend((total(8, 1, 1), 480)), blend((total(14, 1, 1), -24))),
    (blend((form(SQUARES[0]), 1)), blend((form(SQUARES[0]), 1)), FOUR),
    (blend((form(SQUARES[0]), 1)), blend((total(1, -4, 1), 4)), blend((total(2, 1, 1, 4), 8))),
    (blend((form(SQUARES[0]), 1)), FOUR, blend((form(SQUARES[2]), 1))), (FOUR, FOUR, blend((form(SQUARES[3]), 1))),
    (FOUR, blend((total(2, 1, 1, 4), 8)), blend((total(4, 1, 1), 16), (total(4, 1, 1, 2), -32),
                                                (total(4, 1, 1, 4), 256))),
    (blend((form(THREE), (1, 2))), blend((total(1, -3, 1), (4, 1))), blend((form(beside(THREE, THREE)), (1, 3)))),
    (blend((form(A4), 1)), blend((form(A4), 1)), blend((form(beside(A4, A4)), 1))),
    (blend((form(D4), 1)), blend((form(D4), (2, 3))), blend((form(beside(D4, D4)), (2, 3)))),
    (DELTA, blend((product((1, -24)), 1)), blend((product(), 1))),
    (POLE, blend((product((1, -24), (2, 24)), (3, 7))), blend((product(), (3, 7)))),
    (DELTA, blend((product((1, -48), (2, 24)), 1)), blend((product((1, -24), (2, 24)), 1))),
    (DELTA, blend((product((1, -48), (2, 24)), 1), (product((2, -24)), 5)),
     blend((product((1, -24), (2, 24)), 1), (product((1, 24), (2, -24)), 5))),
    (blend((product((1, 8), (4, -8)), 1)), blend((product((1, -8), (4, 8)), 1)), blend((product(), 1))),
    (blend((product((1, 8), (4, -8)), 1), (product(), 16)), blend((product((1, -8), (4, 8)), 1)),
     blend((product(), 1), (product((1, -8), (4, 8)), 16))),
    (blend((product((1, -8), (2, 24), (4, -16)), 1)), blend((product((1, -8), (4, 8)), 1)),
     blend((product((1, -16), (2, 24), (4, -8)), 1))),
]


def told_three(one, other, due):
    """The weight, the level and the place of point 7.6, word by word; None as the place if the level is too great."""
    facts = [told_blend_facts(some) for some in (one, other, due)]
    level = lcm(*[fact[1] for fact in facts])
    if level > 400:
        return facts[2][0], level, None
    sums = [told_least(some, level) for some in (one, other, due)]
    least = {c: min(sums[0][c] + sums[1][c], sums[2][c]) for c in sums[0]}
    return facts[2][0], level, told_place_for(facts[2][0], level, least)


def told_apart(one, other, due, most):
    """All n up to most at which the terms are unlike, by the sums of all a_i b_(n - i)."""
    low, other_low = told_lowest(one), told_lowest(other)
    left, right = told_row(one, most - other_low), told_row(other, most - low)
    made = {}
    for i, a in left.items():
        for j, b in right.items():
            if i + j <= most:
                made[i + j] = made.get(i + j, 0) + a * b
    due_row = told_row(due, most)
    return [n for n in sorted(set(made) | set(due_row)) if made.get(n, 0) != due_row.get(n, 0)]


def joined_triples():
    """Pieces whose products are joined are pieces again, with rows that begin anywhere and poles anywhere."""
    found = []
    pieces = [piece for some in POOL.values() for piece in some if piece[0] == "product"]
    for one in pieces:
        for other in pieces:
            sums = {}
            for d, r in one[1] + other[1]:
                sums[d] = sums.get(d, 0) + r
            joined = blend((("product", tuple([(d, sums[d]) for d in sorted(sums) if sums[d]])), (-3, 2)))
            levels = [told_blend_facts(some) for some in (((one, ONE),), ((other, ONE),), joined)]
            if None not in levels and lcm(*[facts[1] for facts in levels]) <= 60:
                found.append((((one, (3, 1)),), ((other, (-1, 2)),), joined))
    return found


def drawn_triples():
    """Blends made by chance, with the third one of the right weight and sign."""
    maker = random.Random(760)
    drawn = some_blends(maker, 4)
    by_kind = {}
    for some in drawn:
        weight, level, sign = told_blend_facts(some)
        by_kind.setdefault((weight, sign), []).append(some)
    found = []
    for one in drawn[::2]:
        for other in drawn[1::3]:
            weight, level, sign = told_blend_facts(one)
            other_weight, other_level, other_sign = told_blend_facts(other)
            for due in by_kind.get((weight + other_weight, told_sign_of(sign * other_sign)), [])[:3]:
                found.append((one, other, due))
    return found


class PlaceTest(CallCase):
    def test_by_the_words(self):
        great = places = 0
        low = high = 0
        for triple in KNOWN + joined_triples() + drawn_triples():
            weight, level, place = told_three(*triple)
            if place is None:
                great += 1
                self.refuses_thing(BadLevel, level, place_of_three, *triple)
            else:
                places += 1
                low, high = min(low, place), max(high, place)
                self.gives(place, place_of_three, *triple)
        self.assertGreater(great, 1)
        self.assertGreater(places, 300)
        self.assertLess(low, -2)
        self.assertGreater(high, 40)

    def test_edges(self):
        self.gives(0, place_of_three, EISEN, EISEN, blend((total(8, 1, 1), 1)))
        self.gives(0, place_of_three, DELTA, blend((product((1, -24)), 1)), blend((product(), 1)))
        self.gives(2, place_of_three, DELTA, DELTA, blend((product((1, 48)), 1)))
        self.gives(1, place_of_three, DELTA, EISEN, blend((total(16, 1, 1), 1)))
        self.gives(60, place_of_three, blend((product((30, 48)), 1)), blend((product(), 1)),
                   blend((product((30, 48)), 1)))
        self.gives(-60, place_of_three, blend((product((30, -48)), 1)), blend((product(), 1)),
                   blend((product((30, -48)), 1)))
        # The index of 400 is 720.
        self.gives(240, place_of_three, blend((total(2, 1, 1, 400), 1)), FOUR, blend((total(4, 1, 1, 16), 1)))

    def test_levels(self):
        for t, other_t, due_t in ((400, 400, 400), (16, 25, 400), (1, 1, 400), (1, 399, 1), (16, 25, 1), (397, 1, 397)):
            triple = [blend((total(4, 1, 1, t), 1)), blend((total(4, 1, 1, other_t), 1)),
                      blend((total(8, 1, 1, due_t), 1))]
            self.gives(told_three(*triple)[2], place_of_three, *triple)
        for t, other_t, due_t, level in ((57, 31, 1, 57 * 31), (17, 24, 1, 408), (1, 17, 24, 408),
                                         (17, 1, 24, 408),
                                         (3, 1, 134, 402), (2, 3, 67, 402), (400, 399, 397, 400 * 399 * 397)):
            triple = [blend((total(4, 1, 1, t), 1)), blend((total(4, 1, 1, other_t), 1)),
                      blend((total(8, 1, 1, due_t), 1))]
            self.refuses_thing(BadLevel, level, place_of_three, *triple)
            self.refuses_thing(BadLevel, level, judge_times, *triple)
            self.refuses_thing(BadLevel, level, times_hold, *triple, ("equal", 0))
            self.refuses_thing(BadLevel, level, times_hold, *triple, None)


class TimesTest(CallCase):
    def test_examples(self):
        self.assertEqual([judge_times(EISEN, EISEN, ((("sum", 8, 1, 1, 1), (480, 1)),)),
                          judge_times(EISEN, EISEN, ((("sum", 8, 1, 1, 1), (240, 1)),))], [("equal", 0), ("apart", 0)])

    def test_known_to_be_equal(self):
        for one, other, due in KNOWN + joined_triples()[::5]:
            place = told_three(one, other, due)[2]
            self.gives(("equal", place), judge_times, one, other, due)
            self.gives(("equal", place), judge_times, other, one, due)
            for thing, expected in ((("equal", place), True), (("equal", place + 1), False),
                                    (("equal", place - 1), False),
                                    (("apart", place), False), (("apart", 0), False), (("nought", place), False)):
                self.gives(expected, times_hold, one, other, due, thing)

    def test_equal_far_beyond_the_place(self):
        for one, other, due in KNOWN:
            unknowns = [len(piece[1]) for piece, number in one + other + due if piece[0] == "form"]
            far = {2: 80, 4: 30, 6: 10, 8: 4}[max(unknowns, default=2)]
            self.assertGreaterEqual(far, told_three(one, other, due)[2])
            self.assertEqual(told_apart(one, other, due, far), [])

    def test_terms_by_blend_terms(self):
        one, other, due = KNOWN[15]
        low, other_low = told_lowest(one), told_lowest(other)
        left, right = fractions_of(blend_terms(one, low, 40)), fractions_of(blend_terms(other, other_low, 40))
        made = [sum([left[i] * right[n - i] for i in range(n + 1)]) for n in range(40)]
        self.assertEqual(made, fractions_of(blend_terms(due, low + other_low, 40)))

    def test_nearly_equal(self):
        maker = random.Random(761)
        kinds = {}
        for one, other, due in KNOWN + joined_triples()[::7]:
            for piece in POOL.get(told_blend_facts(due)[::2], [due[0][0]]):
                if lcm(told_blend_facts(due)[1], told_facts(piece)[1]) > 60:
                    continue
                changed = added_blends(due, ((piece, told_number(maker)),))
                if changed is None or told_three(one, other, changed)[2] is None:
                    continue
                place = told_three(one, other, changed)[2]
                if not within_limits(one + other + changed, place) or place > 60:
                    continue
                apart = told_apart(one, other, changed, place)
                self.assertNotEqual(apart, [])
                told = judge_times(one, other, changed)
                kinds[told] = kinds.get(told, 0) + 1
                self.assertTrue(told_holds(told, apart, place, ("equal", "apart")))
                self.gives(told, judge_times, one, other, changed)
                for n in range(apart[0] - 2, place + 2):
                    self.assertIs(times_hold(one, other, changed, ("apart", n)), n in apart)
                self.gives(False, times_hold, one, other, changed, ("equal", place))
        self.assertGreater(len(kinds), 4)

    def test_by_chance(self):
        found = 0
        for one, other, due in drawn_triples():
            place = told_three(one, other, due)[2]
            if place is None or place > 60 or not within_limits(one + other + due, place):
                continue
            found += 1
            apart = told_apart(one, other, due, place)
            told = judge_times(one, other, due)
            self.gives(told, judge_times, one, other, due)
            self.assertTrue(told_holds(told, apart, place, ("equal", "apart")))
            self.gives(True, times_hold, one, other, due, told)
        self.assertGreater(found, 60)

    def test_rows_of_nought(self):
        for nought in (NOUGHT[0], NOUGHT[1], NOUGHT[13], NOUGHT[21], NOUGHT[23]):
            weight, level, sign = told_blend_facts(nought)
            for other in (blend((product(), 1)), nought):
                other_weight, other_level, other_sign = told_blend_facts(other)
                for due in NOUGHT:
                    facts = told_blend_facts(due)
                    if facts[0] == weight + other_weight and facts[2] == told_sign_of(sign * other_sign):
                        place = told_three(nought, other, due)[2]
                        if place is not None:
                            self.gives(("equal", place), judge_times, nought, other, due)
                            self.gives(("equal", place), judge_times, other, nought, due)
            place = told_three(nought, blend((product(), 1)), nought)[2]
            if nought in (NOUGHT[0], NOUGHT[21]):
                changed = added_blends(nought, ((nought[0][0], (1, 7)),))
                self.assertEqual(judge_times(nought, blend((product(), 1)), changed)[0], "apart")
            self.gives(("equal", place), judge_times, nought, blend((product(), 1)), nought)

    def test_great_starts(self):
        """A row with a pole ahead needs terms of the other one beyond the place."""
        early, late = blend((product((50, -24)), 1)), blend((product((50, 24)), 1))
        self.gives(("equal", told_three(early, late, blend((product(), 1)))[2]), judge_times, early, late,
                   blend((product(), 1)))
        both = blend((product((1, 24), (50, -24)), 1), (product(), 1))
        due = blend((product((1, 24)), 1), (product((50, 24)), 1))
        place = told_three(both, late, due)[2]
        self.gives(("equal", place), judge_times, both, late, due)
        self.assertEqual(told_apart(both, late, due, 60), [])

    def test_all_certificates_of_a_few(self):
        for one, other, due in (KNOWN[0], KNOWN[7], KNOWN[15], (EISEN, EISEN, blend((total(8, 1, 1), 240))),
                                (FOUR, FOUR, blend((total(4, 1, 1, 2), 1))),
                                (DELTA, DELTA, blend((product((1, 24), (2, 24)), 1))),
                                (POLE, DELTA, DELTA), (POLE, POLE, POLE)):
            place = told_three(one, other, due)[2]
            apart = told_apart(one, other, due, place)
            lowest = min(told_lowest(one) + told_lowest(other), told_lowest(due))
            rights = 0
            for thing in many_things(place, lowest, judge_times(one, other, due)):
                expected = told_holds(thing, apart, place, ("equal", "apart"))
                rights += expected
                self.gives(expected, times_hold, one, other, due, thing)
            self.assertGreater(rights, 0)

    def test_other_n_than_the_first(self):
        triple = (FOUR, FOUR, blend((total(4, 1, 1, 11), 240)))
        place = told_three(*triple)[2]
        apart = told_apart(*triple, place)
        self.assertGreater(len(apart), 5)
        self.assertGreater(place, len(apart) - 1)
        for n in apart:
            self.gives(True, times_hold, *triple, ("apart", n))


class ErrorTest(CallCase):
    FUNCTIONS = ((place_of_three, ()), (judge_times, ()), (times_hold, (("equal", 0),)), (times_hold, (None,)))

    def test_no_blends(self):
        for function, rest in self.FUNCTIONS:
            for thing in NO_BLENDS:
                self.refuses_thing(BadBlend, thing, function, thing, FOUR, FOUR, *rest)
                self.refuses_thing(BadBlend, thing, function, FOUR, thing, FOUR, *rest)
                self.refuses_thing(BadBlend, thing, function, DELTA, FOUR, thing, *rest)
                self.refuses_thing(BadBlend, thing, function, thing, None, HUGE, *rest)
                self.refuses_thing(BadBlend, thing, function, FOUR, thing, None, *rest)

    def test_other_weights_and_signs(self):
        five, three = blend((total(2, 1, 5), 1)), blend((form(THREE), 1))
        for function, rest in self.FUNCTIONS:
            self.refuses_thing(OtherWeight, FOUR, function, FOUR, FOUR, FOUR, *rest)
            self.refuses_thing(OtherWeight, EISEN, function, DELTA, EISEN, EISEN, *rest)
            self.refuses_thing(OtherWeight, five, function, FOUR, five, five, *rest)
            self.refuses_thing(OtherSign, EISEN, function, FOUR, five, EISEN, *rest)
            self.refuses_thing(OtherSign, EISEN, function, five, FOUR, EISEN, *rest)
            self.refuses_thing(OtherSign, five, function, three, three, five, *rest)
            wrong = blend((total(2, 5, 1), 1))
            self.refuses_thing(OtherSign, wrong, function, blend((total(1, -4, 1), 1)), blend((total(1, -4, 1), 1)),
                               wrong, *rest)
            # The weight is asked for ahead of the sign, and both ahead of the level.
            far = blend((total(5, -4, 1, 99), 1))
            self.refuses_thing(OtherWeight, far, function, FOUR, blend((total(2, 1, 1, 17), 1)), far, *rest)
            far = blend((total(4, 5, 1, 79), 1))
            self.refuses_thing(OtherSign, far, function, FOUR, blend((total(2, 1, 1, 17), 1)), far, *rest)
        self.gives(("equal", told_three(five, five, blend((total(4, 1, 1), 1)))[2])[1], place_of_three, five, five,
                   blend((total(4, 1, 1), 1)))

    def test_joined_signs(self):
        """The joined sign of -4 and -3 is 12, and of -3 and -23 it is 69."""
        self.gives(told_three(blend((total(1, -4, 1), 1)), blend((form(THREE), 1)), blend((total(2, 12, 1), 1)))[2],
                   place_of_three, blend((total(1, -4, 1), 1)), blend((form(THREE), 1)), blend((total(2, 12, 1), 1)))
        one, other = blend((total(1, -3, 1), 1)), blend((total(1, -23, 1), 1))
        due = blend((total(2, 69, 1), 1))
        self.gives(told_three(one, other, due)[2], place_of_three, one, other, due)
        self.assertEqual(judge_times(one, other, due)[0], "apart")
        self.gives(True, times_hold, one, other, due, ("apart", told_apart(one, other, due, 10)[0]))
