"""Point 8.1: sums of multiples of told rows."""
import random
from fractions import Fraction
from math import gcd, lcm

from firstterms.blends import added_blends, scaled
from firstterms.errors import BadBlend, BadBlends, BadLevel, HasPole, OtherSign, OtherWeight
from firstterms.within import judge_within, within_holds
from tests.helpers import HUGE, CallCase, is_int, pair, spoiled
from tests.pool import (
    POOL, blend, form, product, told_blend_facts, told_facts, told_index, told_number, told_row, total)
from tests.test_blends import DELTA, EISEN, FOUR, NO_BLENDS, ONE, POLE, is_told_smooth
from tests.test_equal import EQUAL
from tests.test_forms import SQUARES, THREE

EIGHT = blend((form(SQUARES[3]), 1))
SUMS = tuple([blend((total(4, 1, 1, t), 1)) for t in (1, 2, 4)])
TWELVE = blend((total(12, 1, 1), 1))
NOUGHT = [added_blends(one, scaled(other, (-1, 1))) for one, other in EQUAL]
# Tuples of blends of one weight and one sign, all smooth.
TUPLES = (
    SUMS, SUMS[:1], (TWELVE,), (TWELVE, DELTA),
    (DELTA, TWELVE, blend((product((2, 24)), 1)), blend((total(12, 1, 1, 2), 1))),
    tuple([blend((total(2, 1, 1, t), 1)) for t in (2, 4, 8, 3, 6, 12)]),
    (blend((total(2, 1, 1, 11), 5)), blend((product((1, 2), (11, 2)), 1))),
    tuple([blend((total(1, -4, 1, t), (1, t))) for t in (1, 2, 3, 6)]),
    (blend((total(3, -4, 1), 1)), blend((total(3, 1, -4), 1)), blend((product((4, 6)), 1))),
    (blend((total(2, 5, 1), 1)), blend((total(2, 1, 5), 1)), blend((product((1, 5), (5, -1)), 1))),
    (blend((form(THREE), 1)), blend((total(1, -3, 1), 1)), blend((total(1, -3, 1, 3), (-7, 2)))),
    tuple([blend((total(4, 1, 1, t), 1)) for t in (1, 2, 3, 4, 6, 12)]), (blend((product(), 1)),),
    tuple([blend((total(24, 1, 1, t), 1)) for t in (1, 2)]) + (blend((product((1, 48)), 1)),
                                                               blend((product((1, 24), (2, 24)), 3))),
)


def told_most(blended, blends):
    """P of point 8.1."""
    weight = told_blend_facts(blended)[0]
    level = lcm(*[told_blend_facts(one)[1] for one in (blended,) + blends])
    return weight * told_index(level) // 12


def told_rows(blended, blends, most):
    """The terms up to most, of the blend and of the others, as fractions."""
    rows = [told_row(one, most) for one in (blended,) + blends]
    return [[row.get(n, Fraction(0)) for n in range(most + 1)] for row in rows]


def rank_of(rows):
    """How many rows of fractions are not sums of multiples of the others, by taking away."""
    left = [list(row) for row in rows]
    rank = 0
    while left:
        row = left.pop()
        at = [n for n, term in enumerate(row) if term]
        if at:
            rank += 1
            left = [[a - b * other[at[0]] / row[at[0]] for a, b in zip(other, row)] for other in left]
    return rank


def told_holds(blended, blends, thing):
    """Point 8.1, word by word."""
    own, *rows = told_rows(blended, blends, told_most(blended, blends))
    if not isinstance(thing, tuple) or len(thing) != 2 or not isinstance(thing[1], tuple):
        return False
    items = thing[1]
    if thing[0] == "sum" and len(items) == len(rows):
        for item in items:
            if not isinstance(item, tuple) or len(item) != 2 or not is_int(item[0]) or not is_int(item[1]):
                return False
            if item[1] < 1:
                return False
        return own == [sum([Fraction(*item) * term for item, term in zip(items, terms)]) for terms in zip(*rows)]
    if thing[0] == "not" and len(items) == len(own) and all(is_int(item) for item in items):
        sums = [sum([item * term for item, term in zip(items, row)]) for row in [own] + rows]
        return sums[0] != 0 and not any(sums[1:])
    return False


def made_of(blends, numbers):
    """The sum of multiples of blends; None if it is nothing, or no blend."""
    sums = {}
    for one, number in zip(blends, numbers):
        for piece, own in one:
            sums[piece] = sums.get(piece, 0) + Fraction(*number) * Fraction(*own)
    found = blend(*[(piece, pair(number)) for piece, number in sums.items() if number])
    return None if told_blend_facts(found) is None else found


def drawn_cases():
    """Tuples of blends by chance, each with a blend that is often a sum of multiples of these."""
    maker = random.Random(81)
    found = []
    for some in POOL.values():
        smooth = [piece for piece in some if is_told_smooth(((piece, ONE),)) and told_facts(piece)[1] < 25]
        smooth = [piece for piece in smooth if piece[0] != "form" or len(piece[1]) <= 4]
        for _ in range(7 if len(smooth) > 1 else 0):
            blends = tuple([blend((maker.choice(smooth), told_number(maker))) for _ in range(maker.randint(1, 6))])
            for own in (blend((maker.choice(smooth), told_number(maker))),
                        made_of(blends, [(maker.randint(-3, 3), maker.randint(1, 4)) for _ in blends])):
                if own is not None and told_most(own, blends) <= 40:
                    found.append((own, blends))
    return found


class WithinTest(CallCase):
    def check_certificate(self, own, blends, told):
        """A certificate that is returned, against the words; numbers are in lowest terms."""
        self.assertTrue(told_holds(own, blends, told), (own, blends, told))
        rows = told_rows(own, blends, told_most(own, blends))
        self.assertEqual(told[0] == "sum", rank_of(rows) == rank_of(rows[1:]))
        if told[0] == "sum":
            for top, bottom in told[1]:
                self.assertEqual(gcd(top, bottom), 1)
        self.gives(told, judge_within, own, blends)
        self.gives(True, within_holds, own, blends, told)
        self.gives(False, within_holds, own, blends, ("not" if told[0] == "sum" else "sum", told[1]))

    def test_examples(self):
        self.assertEqual(
            [judge_within(EIGHT, SUMS), within_holds(DELTA, (TWELVE,), ("not", (65520, -691)))],
            [("sum", ((16, 1), (-32, 1), (256, 1))), True])

    def test_known(self):
        self.gives(("sum", ((1, 1),)), judge_within, EISEN, (EISEN,))
        self.gives(("sum", ((240, 1),)), judge_within, EISEN, SUMS[:1])
        self.gives(("sum", ((1, 240),)), judge_within, SUMS[0], (EISEN,))
        for one, other in EQUAL:
            if is_told_smooth(one + other) and told_most(one, (other,)) <= 60:
                self.gives(("sum", ((1, 1),)), judge_within, one, (other,))
                self.gives(("sum", ((-2, 3),)), judge_within, scaled(one, (-2, 3)), (other,))
                self.gives(("sum", ((5, 1),)), judge_within, one, (scaled(other, (1, 5)),))
        self.check_certificate(DELTA, (TWELVE,), judge_within(DELTA, (TWELVE,)))
        self.check_certificate(EIGHT, SUMS[:2], judge_within(EIGHT, SUMS[:2]))

    def test_drawn_sums_are_found_again(self):
        maker = random.Random(82)
        found = 0
        for blends in TUPLES:
            for _ in range(4):
                numbers = [(maker.randint(-5, 5), maker.randint(1, 6)) for _ in blends]
                own = made_of(blends, numbers)
                if own is None:
                    continue
                found += 1
                told = judge_within(own, blends)
                self.assertEqual(told[0], "sum")
                self.check_certificate(own, blends, told)
                # The drawn numbers are right ones, too, in any terms.
                self.gives(True, within_holds, own, blends, ("sum", tuple(numbers)))
                wide = tuple([(top * (k + 2), bottom * (k + 2)) for k, (top, bottom) in enumerate(numbers)])
                self.gives(True, within_holds, own, blends, ("sum", wide))
                huge = tuple([(top * HUGE, bottom * HUGE) for top, bottom in numbers])
                self.gives(True, within_holds, own, blends, ("sum", huge))
                wrong = tuple(numbers[:-1]) + ((numbers[-1][0] + 1, numbers[-1][1]),)
                self.gives(False, within_holds, own, blends, ("sum", wrong))
        self.assertGreater(found, 40)

    def test_sums_far_beyond_the_place(self):
        for blends in TUPLES:
            own = made_of(blends, [(k + 1, 3) for k in range(len(blends))])
            word, numbers = judge_within(own, blends)
            rows = told_rows(own, blends, 150 if own[0][0][0] != "form" else 60)
            for at in range(len(rows[0])):
                made = sum([Fraction(*number) * row[at] for number, row in zip(numbers, rows[1:])])
                self.assertEqual(rows[0][at], made)

    def test_by_chance(self):
        kinds = {"sum": 0, "not": 0}
        for own, blends in drawn_cases():
            told = judge_within(own, blends)
            kinds[told[0]] += 1
            self.check_certificate(own, blends, told)
        self.assertGreater(min(kinds.values()), 15)

    def test_every_other_one(self):
        """Each blend of a tuple that is a base of the others is no sum of these, and is one of all."""
        for blends in (SUMS, TUPLES[3], TUPLES[6], TUPLES[7], TUPLES[8]):
            for k, own in enumerate(blends):
                rest = blends[:k] + blends[k + 1:]
                told = judge_within(own, rest)
                self.assertEqual(told[0], "not")
                self.check_certificate(own, rest, told)
                numbers = tuple([(1 if i == k else 0, 1) for i in range(len(blends))])
                self.gives(("sum", numbers), judge_within, own, blends)

    def test_equal_ones_multiples_and_rows_of_nought(self):
        double = scaled(SUMS[0], (2, 1))
        blends = (SUMS[0], SUMS[0], double, SUMS[1])
        self.check_certificate(EISEN, blends, judge_within(EISEN, blends))
        for numbers in (((240, 1), (0, 1), (0, 1), (0, 5)), ((0, 1), (240, 1), (0, 1), (0, 1)),
                        ((0, 1), (0, 1), (120, 1), (0, 1)),
                        ((0, 7), (-60, 1), (300, 2), (0, 1)), ((80, 1), (80, 1), (40, 1), (0, 1))):
            self.gives(True, within_holds, EISEN, blends, ("sum", numbers))
        self.gives(False, within_holds, EISEN, blends, ("sum", ((240, 1), (240, 1), (0, 1), (0, 1))))
        nought = [row for row in NOUGHT if told_blend_facts(row)[::2] == (2, 1) and is_told_smooth(row)]
        self.assertGreater(len(nought), 2)
        for row in nought:
            self.check_certificate(FOUR, (row,), judge_within(FOUR, (row,)))
            self.assertEqual(judge_within(FOUR, (row,))[0], "not")
            self.assertEqual(judge_within(FOUR, (row, row, FOUR))[0], "sum")
            self.check_certificate(FOUR, (row, FOUR, row), judge_within(FOUR, (row, FOUR, row)))
            self.check_certificate(row, (FOUR,), judge_within(row, (FOUR,)))
            self.gives(("sum", ((0, 1),)), judge_within, row, (FOUR,))
            self.gives(True, within_holds, row, (row, row), ("sum", ((7, 3), (-1, 1))))
            self.gives(True, within_holds, row, (row,), ("sum", ((0, 9),)))

    def test_how_many_blends(self):
        twelve = tuple([blend((total(4, 1, 1, t), 1)) for t in (1, 2, 4, 8)] * 3)
        self.check_certificate(EIGHT, twelve, judge_within(EIGHT, twelve))
        self.refuses_thing(BadBlends, twelve + (EISEN,), judge_within, EIGHT, twelve + (EISEN,))
        self.refuses_thing(BadBlends, (), judge_within, EIGHT, ())
        self.refuses_thing(BadBlends, (), within_holds, EIGHT, (), ("sum", ()))
        self.check_certificate(EIGHT, twelve[:1], judge_within(EIGHT, twelve[:1]))

    def test_places(self):
        constant = blend((product(), (5, 3)))
        self.gives(("sum", ((5, 3),)), judge_within, constant, (blend((product(), 1)),))
        self.gives(True, within_holds, constant, (blend((product(), 1)),), ("sum", ((10, 6),)))
        self.gives(False, within_holds, constant, (blend((product(), 1)),), ("not", (1,)))
        level = blend((total(2, 1, 1, 180), 1)), blend((total(2, 1, 1, 2), 1))
        self.assertEqual(told_most(level[0], level[1:]), 72)
        level = blend((total(2, 1, 1, 150), 1)), blend((total(2, 1, 1, 2), 1))
        self.assertEqual(told_most(level[0], level[1:]), 60)
        self.check_certificate(level[0], level[1:], judge_within(level[0], level[1:]))
        own = made_of(level, ((3, 2), (-1, 1)))
        self.gives(("sum", ((3, 2), (-1, 1))), judge_within, own, level)

    def test_all_certificates_of_a_few(self):
        for own, blends in ((EIGHT, SUMS), (DELTA, (TWELVE,)), (EISEN, (SUMS[0], SUMS[0])), (EIGHT, SUMS[1:]),
                            (blend((product(), 1)), (blend((product(), (2, 3))),))):
            told = judge_within(own, blends)
            for thing in spoiled(told):
                self.gives(told_holds(own, blends, thing), within_holds, own, blends, thing)
            for thing in NO_BLENDS[:60] + (None, (), ("sum",), ("not",), ("sum", None), ("not", None), ("sum", ()),
                                           ("not", ())):
                self.gives(False, within_holds, own, blends, thing)
            self.gives(True, within_holds, own, blends, told)

    def test_other_right_weights(self):
        word, weights = judge_within(DELTA, (TWELVE,))
        for factor in (-1, 2, HUGE):
            self.gives(True, within_holds, DELTA, (TWELVE,), ("not", tuple([factor * weight for weight in weights])))
        self.gives(False, within_holds, DELTA, (TWELVE,), ("not", (0, 0)))
        self.gives(False, within_holds, DELTA, (TWELVE,), ("not", (65520, 691)))
        self.gives(False, within_holds, DELTA, (TWELVE,), ("not", weights + (0,)))
        self.gives(False, within_holds, DELTA, (TWELVE,), ("not", weights[:1]))
        own, blends = blend((product((2, 4), (4, 4)), 1)), tuple([blend((total(4, 1, 1, t), 1)) for t in (1, 2, 4, 8)])
        self.check_certificate(own, blends, judge_within(own, blends))
        rows = told_rows(own, blends, told_most(own, blends))
        maker = random.Random(83)
        self.assertEqual(len(rows[0]), 5)
        for _ in range(300):
            thing = ("not", tuple([maker.randint(-9, 9) for _ in rows[0]]))
            self.assertIs(within_holds(own, blends, thing), told_holds(own, blends, thing))

    def test_sums_of_right_weights(self):
        third, fourth, blends = SUMS[2], blend((total(4, 1, 1, 8), 1)), SUMS[:2] + (blend((total(4, 1, 1, 16), 1)),)
        word, weights = judge_within(third, blends)
        word, others = judge_within(fourth, blends)
        rights = 0
        for a in range(-3, 4):
            for b in range(-3, 4):
                thing = ("not", tuple([a * x + b * y for x, y in zip(weights, others)]))
                expected = told_holds(third, blends, thing)
                rights += expected
                self.gives(expected, within_holds, third, blends, thing)
        self.assertGreater(rights, 30)


class ErrorTest(CallCase):
    FUNCTIONS = ((judge_within, ()), (within_holds, (("sum", ((1, 1),)),)), (within_holds, (None,)))

    def refused(self, error, thing, own, blends):
        for function, rest in self.FUNCTIONS:
            self.refuses_thing(error, thing, function, own, blends, *rest)

    def test_no_blends(self):
        for thing in NO_BLENDS:
            self.refused(BadBlend, thing, thing, SUMS)
            self.refused(BadBlend, thing, thing, None)
            self.refused(BadBlends, (thing,), EIGHT, (thing,))
            self.refused(BadBlends, SUMS + (thing,), DELTA, SUMS + (thing,))
            self.refused(BadBlends, (thing,) + SUMS, POLE, (thing,) + SUMS)
        for thing in (None, 1, "sum", list(SUMS), {}, EIGHT, SUMS[0], (SUMS,), ((),), SUMS * 5, SUMS[0][0],
                      dict(enumerate(SUMS))):
            self.refused(BadBlends, thing, EIGHT, thing)
            self.refused(BadBlends, thing, DELTA, thing)
        for thing in spoiled(SUMS[:2]):
            good = isinstance(thing, tuple) and 1 <= len(thing) <= 12 and all(told_blend_facts(one) for one in thing)
            if not good:
                self.refused(BadBlends, thing, EIGHT, thing)

    def test_first_of_the_tuple(self):
        """The tuple's own order tells which blend is the first one."""
        five, seven = blend((total(4, 5, 1), 1)), blend((total(4, -7, -3), 1))
        late, early = DELTA, blend((total(2, 1, 1, 2), 1))
        pole, other_pole = blend((product((1, 40), (2, -32)), 1)), blend((product((1, -32), (2, 40)), 1))
        self.assertFalse(is_told_smooth(pole) or is_told_smooth(other_pole))
        for at in range(4):
            def put(*some):
                return SUMS[:at] + some + SUMS[at:]
            self.refused(OtherWeight, late, EIGHT, put(late))
            self.refused(OtherWeight, late, EIGHT, put(late, early))
            self.refused(OtherWeight, early, EIGHT, put(early, late))
            self.refused(OtherSign, five, EIGHT, put(five))
            self.refused(OtherSign, five, EIGHT, put(five, seven))
            self.refused(OtherSign, seven, EIGHT, put(seven, five))
            self.refused(HasPole, pole, EIGHT, put(pole))
            self.refused(HasPole, pole, EIGHT, put(pole, other_pole))
            self.refused(HasPole, other_pole, EIGHT, put(other_pole, pole))
            self.refused(OtherWeight, late, EIGHT, put(pole, five, late))
            self.refused(OtherWeight, late, EIGHT, put(late, five, pole))
            self.refused(OtherSign, five, EIGHT, put(pole, five))
            self.refused(OtherSign, five, EIGHT, put(five, pole))
            self.refused(OtherSign, five, pole, put(five))
            self.refused(HasPole, pole, pole, put(other_pole))
            self.refused(HasPole, pole, pole, put())
            self.refused(HasPole, other_pole, other_pole, put(pole))

    def test_levels(self):
        def sums(*levels):
            return tuple([blend((total(4, 1, 1, t), 1)) for t in levels])
        for own, others, level in ((17, (24,), 408), (24, (1, 17), 408), (1, (17, 1, 24), 408), (3, (134,), 402),
                                   (400, (399, 397), 400 * 399 * 397)):
            self.refused(BadLevel, level, sums(own)[0], sums(*others))
        pole = blend((product((1, 40), (2, -32)), 1))
        five = blend((total(4, 5, 1), 1))
        self.refused(HasPole, pole, sums(17)[0], sums(25) + (pole,))
        self.refused(OtherSign, five, sums(17)[0], sums(25) + (five,))
        self.refused(OtherWeight, DELTA, sums(17)[0], sums(25) + (DELTA,))
