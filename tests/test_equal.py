"""Points 7.3 to 7.5: places, and blends that are 0 or equal for all n."""
import random
from fractions import Fraction
from math import lcm

from firstterms.blends import added_blends, is_smooth, scaled, spread_blend
from firstterms.errors import BadBlend, BadLevel, OtherSign, OtherWeight
from firstterms.equal import equal_holds, judge_equal, judge_nought, nought_holds, place_of, place_of_two
from tests.helpers import HUGE, CallCase, is_int, spoiled
from tests.pool import (
    POOL, blend, form, product, some_blends, told_blend_facts, told_index, told_lowest, told_number, told_place,
    told_row, total, within_limits)
from tests.test_blends import DELTA, EISEN, NO_BLENDS, ONE
from tests.test_forms import A4, D4, E6, E8, SQUARES, THREE

FOUR, JACOBI = blend((form(SQUARES[1]), 1)), blend((total(2, 1, 1, 4), 8))
TWO = blend((total(2, 1, 1, 2), 24))
CUBE = blend((product((1, 3), (3, -1)), 1))
# Pairs of blends that are known to have the same terms for all n.
EQUAL = [
    (FOUR, JACOBI),
    (blend((form(SQUARES[0]), 1)), blend((total(1, -4, 1), 4))),
    (blend((form(SQUARES[0]), 1)), blend((product((1, -4), (2, 10), (4, -4)), 1))),
    (FOUR, blend((product((1, -8), (2, 20), (4, -8)), 1))),
    (blend((product((1, -8), (2, 20), (4, -8)), 1)), blend((product((1, 8), (2, -4)), 1), (product((2, -4), (4, 8)), 16))),
    (blend((form(D4), 1)), TWO),
    (blend((form(THREE), 1)), blend((total(1, -3, 1), 6))),
    (CUBE, blend((total(1, -3, 1), -3), (total(1, -3, 1, 3), 9))),
    (blend((form(((4, 2), (2, 4))), 1)), blend((total(1, -3, 1, 2), 6))),
    (blend((form(((2, 1), (1, 12))), 1)), blend((form(((4, 1), (1, 6))), 1), (product((1, 1), (23, 1)), 2))),
    (blend((form(((4, 1), (1, 6))), 1)), blend((form(((4, -1), (-1, 6))), 1))),
    (blend((form(((2, 1), (1, 12))), (1, 2)), (form(((4, 1), (1, 6))), 1)), blend((total(1, -23, 1), 1))),
    (blend((product((1, -1), (5, 5)), 1)), blend((total(2, 5, 1), 1))),
    (blend((product((1, 5), (5, -1)), 1)), blend((total(2, 1, 5), -5))),
    (blend((form(A4), 1)), blend((total(2, 5, 1), 25), (total(2, 1, 5), -5))),
    (blend((form(SQUARES[2]), 1)), blend((total(3, -4, 1), 16), (total(3, 1, -4), -4))),
    (blend((form(E6), 1)), blend((total(3, -3, 1), 81), (total(3, 1, -3), -9))),
    (blend((product((1, 9), (3, -3)), 1)), blend((total(3, 1, -3), -9))),
    (blend((product((1, -3), (3, 9)), 1)), blend((total(3, -3, 1), 1))),
    (blend((form(E8), 1)), EISEN),
    (blend((form(SQUARES[3]), 1)), blend((total(4, 1, 1), 16), (total(4, 1, 1, 2), -32), (total(4, 1, 1, 4), 256))),
    (blend((product((1, -16), (2, 24), (4, -8)), 1)), blend((product(), 1), (product((1, -8), (4, 8)), 16))),
    (blend((product((1, -8), (2, 24), (4, -16)), 1)), blend((product((1, 8), (4, -8)), 1), (product(), 16))),
    (blend((product((1, -32), (2, 24), (4, -16)), 1)), blend((product((1, -16), (4, -8)), 1), (product((1, -24)), 16))),
]
BLENDS = some_blends(random.Random(75))


def told_unlike(one, other, place):
    """All n up to the place at which the terms are unlike, by point 7.5."""
    left, right = told_row(one, place), told_row(other, place)
    return [n for n in sorted(set(left) | set(right)) if left.get(n, 0) != right.get(n, 0)]


def told_holds(thing, apart, place, words):
    """Points 7.4 and 7.5: which values are certificates."""
    if not isinstance(thing, tuple) or len(thing) != 2 or not is_int(thing[1]):
        return False
    return thing[0] == words[0] and thing[1] == place and not apart or thing[0] == words[1] and thing[1] in apart


def alike(one, other):
    return told_blend_facts(one)[::2] == told_blend_facts(other)[::2]


def many_things(place, lowest, told):
    """Values that are certificates, or nearly."""
    for n in list(range(lowest - 3, place + 4)) + [HUGE, -HUGE, True, False, None, "1", (0, 1), [0]]:
        for word in ("equal", "apart", "nought", "term", "Equal", "alike", None):
            yield (word, n)
    for thing in spoiled(told):
        yield thing


class PlaceTest(CallCase):
    def test_examples(self):
        self.gives(1, place_of, DELTA)
        self.gives(1, place_of_two, FOUR, JACOBI)

    def test_by_the_words(self):
        places = []
        for blended in BLENDS:
            place = told_place(blended)
            places.append(place)
            self.gives(place, place_of, blended)
            self.gives(place, place_of_two, blended, blended)
            if is_smooth(blended):
                weight, level, sign = told_blend_facts(blended)
                self.assertLessEqual(place, weight * told_index(level) // 12)
        self.assertLess(min(places), 0)
        self.assertGreater(max(places), 10)

    def test_of_two(self):
        found = 0
        for one in BLENDS:
            for other in BLENDS:
                if alike(one, other):
                    level = lcm(told_blend_facts(one)[1], told_blend_facts(other)[1])
                    if level > 400:
                        self.refuses_thing(BadLevel, level, place_of_two, one, other)
                    else:
                        found += 1
                        self.gives(told_place(one + other, level), place_of_two, one, other)
        self.assertGreater(found, 200)

    def test_edges(self):
        self.gives(-1, place_of, blend((product((1, -24)), 1)))
        self.gives(0, place_of, blend((product(), 1)))
        self.gives(0, place_of, EISEN)
        self.gives(-200, place_of, blend((product((200, -24)), 1)))
        self.gives(800, place_of, blend((product((400, 48)), 1)))
        self.gives(120, place_of, blend((product((60, 48)), 1)))
        self.gives(-1, place_of, blend((product((1, 24), (2, -24)), 1)))
        self.gives(0, place_of, blend((product((1, 24), (2, -24)), 1), (product(), 1)))
        self.gives(told_place(blend((product((1, 24), (2, -24)), 1), (product((1, -24), (2, 24)), 1))), place_of,
                   blend((product((1, 24), (2, -24)), 1), (product((1, -24), (2, 24)), 1)))

    def test_one_piece_parts_at_its_start(self):
        for some in POOL.values():
            for piece in some:
                if piece[0] == "product":
                    start = sum([d * r for d, r in piece[1]]) // 24
                    self.gives(start, place_of, ((piece, (-3, 2)),))
                    self.gives(("term", start), judge_nought, ((piece, (-3, 2)),))


class EqualTest(CallCase):
    def test_examples(self):
        self.assertEqual(
            [judge_equal(FOUR, JACOBI), judge_equal(FOUR, TWO),
             judge_equal(blend((form(SQUARES[0]), 1)), blend((total(1, -4, 1), 4))), judge_nought(DELTA),
             equal_holds(FOUR, JACOBI, ("apart", 0))],
            [("equal", 1), ("apart", 1), ("equal", 0), ("term", 1), False])

    def test_known_to_be_equal(self):
        for one, other in EQUAL:
            place = told_place(one + other)
            self.gives(("equal", place), judge_equal, one, other)
            self.gives(("equal", place), judge_equal, other, one)
            for thing, expected in ((("equal", place), True), (("equal", place + 1), False), (("equal", place - 1), False),
                                    (("apart", place), False), (("nought", place), False)):
                self.gives(expected, equal_holds, one, other, thing)

    def test_equal_far_beyond_the_place(self):
        for one, other in EQUAL:
            unknowns = [len(piece[1]) for piece, number in one + other if piece[0] == "form"]
            far = {2: 300, 4: 40, 6: 10, 8: 4}[max(unknowns, default=2)]
            self.assertEqual(told_unlike(one, other, far), [])

    def test_nearly_equal(self):
        maker = random.Random(76)
        kinds = {}
        for one, other in EQUAL:
            for some in (POOL[told_blend_facts(one)[::2]], [piece for piece, number in other]):
                for piece in some:
                    changed = added_blends(other, ((piece, told_number(maker)),))
                    if changed is not None and lcm(told_blend_facts(one)[1], told_blend_facts(changed)[1]) <= 400:
                        place = told_place(one + changed)
                        if not within_limits(one + changed, place):
                            continue
                        apart = told_unlike(one, changed, place)
                        self.assertNotEqual(apart, [])
                        told = judge_equal(one, changed)
                        kinds[told] = kinds.get(told, 0) + 1
                        self.assertTrue(told_holds(told, apart, place, ("equal", "apart")))
                        self.gives(told, judge_equal, one, changed)
                        for n in range(apart[0] - 2, place + 2):
                            self.assertIs(equal_holds(one, changed, ("apart", n)), n in apart)
                        self.gives(False, equal_holds, one, changed, ("equal", place))
        self.assertGreater(len(kinds), 3)

    def test_by_chance(self):
        found = 0
        for one in BLENDS[::2]:
            for other in BLENDS:
                if alike(one, other) and lcm(told_blend_facts(one)[1], told_blend_facts(other)[1]) <= 60:
                    place = told_place(one + other)
                    if not within_limits(one + other, place):
                        continue
                    found += 1
                    apart = told_unlike(one, other, place)
                    told = judge_equal(one, other)
                    self.gives(told, judge_equal, one, other)
                    self.assertTrue(told_holds(told, apart, place, ("equal", "apart")))
                    self.gives(True, equal_holds, one, other, told)
                    self.assertEqual(told[0] == "equal", one == other)
        self.assertGreater(found, 80)

    def test_all_certificates_of_a_few(self):
        pole = blend((product((1, -8), (2, 24), (4, -16)), 1))
        for one, other in (EQUAL[0], EQUAL[9], EQUAL[22], EQUAL[23], (FOUR, TWO), (DELTA, scaled(DELTA, (2, 1))),
                           (pole, blend((product((1, 8), (4, -8)), 1))), (pole, scaled(pole, (1, 2))),
                           (blend((product((4, 6)), 1)), blend((form(SQUARES[2]), 1)))):
            place = told_place(one + other)
            apart = told_unlike(one, other, place)
            lowest = min(told_lowest(one), told_lowest(other))
            rights = 0
            for thing in many_things(place, lowest, judge_equal(one, other)):
                expected = told_holds(thing, apart, place, ("equal", "apart"))
                rights += expected
                self.gives(expected, equal_holds, one, other, thing)
            self.assertGreater(rights, 0)

    def test_other_n_than_the_first(self):
        place = place_of_two(FOUR, blend((total(2, 1, 1, 11), 1)))
        apart = told_unlike(FOUR, blend((total(2, 1, 1, 11), 1)), place)
        self.assertGreater(len(apart), 3)
        for n in apart:
            self.gives(True, equal_holds, FOUR, blend((total(2, 1, 1, 11), 1)), ("apart", n))

    def test_spread_ones_stay_equal(self):
        for one, other in EQUAL[:8] + EQUAL[12:14]:
            for t in (2, 3):
                wide, wider = spread_blend(one, t), spread_blend(other, t)
                self.gives(("equal", told_place(wide + wider)), judge_equal, wide, wider)

    def test_great_places(self):
        late = blend((product((60, 48)), 1))
        self.gives(("equal", 120), judge_equal, late, late)
        self.gives(("apart", 120), judge_equal, late, scaled(late, (2, 1)))
        sums = blend((total(2, 1, 1, 60), 1)), blend((total(2, 1, 1, 400), 1))
        self.gives(told_place(sums[0]), place_of, sums[0])
        self.gives(("equal", 24), judge_equal, sums[0], sums[0])
        self.gives(("equal", 120), judge_equal, sums[1], sums[1])
        self.gives(120, place_of, sums[1])

    def test_early_and_late(self):
        early = blend((product((200, -24)), 1))
        self.gives(("equal", -200), judge_equal, early, early)
        self.gives(("apart", -200), judge_equal, early, scaled(early, (1, 3)))

    def test_errors(self):
        five = blend((total(2, 1, 5), 1))
        for function, rest in ((place_of_two, ()), (judge_equal, ()), (equal_holds, (("equal", 0),)), (equal_holds, (None,))):
            for thing in NO_BLENDS:
                self.refuses_thing(BadBlend, thing, function, thing, FOUR, *rest)
                self.refuses_thing(BadBlend, thing, function, FOUR, thing, *rest)
                self.refuses_thing(BadBlend, thing, function, DELTA, thing, *rest)
                self.refuses_thing(BadBlend, thing, function, thing, None, *rest)
            self.refuses_thing(OtherWeight, EISEN, function, DELTA, EISEN, *rest)
            self.refuses_thing(OtherSign, five, function, FOUR, five, *rest)
            self.refuses_thing(OtherSign, FOUR, function, five, FOUR, *rest)
            three = blend((form(THREE), 1))
            self.refuses_thing(OtherWeight, three, function, five, three, *rest)
            one, other = ((total(4, 1, 1, 17), ONE),), ((total(4, 1, 1, 25), ONE),)
            self.refuses_thing(BadLevel, 425, function, one, other, *rest)
            self.refuses_thing(BadLevel, 399 * 400, function, ((total(4, 1, 1, 399), ONE),), ((total(4, 1, 1, 400), ONE),), *rest)
            weight = ((total(6, 1, 1, 25), ONE),)
            self.refuses_thing(OtherWeight, weight, function, one, weight, *rest)
            sign = ((total(4, 1, 5, 40), ONE),)
            self.refuses_thing(OtherSign, sign, function, one, sign, *rest)
        self.gives(240, place_of_two, ((total(4, 1, 1, 16), ONE),), ((total(4, 1, 1, 25), ONE),))


class NoughtTest(CallCase):
    def differences(self):
        """Blends whose rows are 0 for all n."""
        return [added_blends(one, scaled(other, (-1, 1))) for one, other in EQUAL]

    def test_known_to_be_nought(self):
        for blended in self.differences():
            place = told_place(blended)
            self.gives(("nought", place), judge_nought, blended)
            for thing, expected in ((("nought", place), True), (("nought", place + 1), False), (("term", place), False),
                                    (("nought", place - 1), False), (("equal", place), False), (("term", 0), False)):
                self.gives(expected, nought_holds, blended, thing)
            self.gives(("nought", place), judge_nought, scaled(blended, (-7, 3)))

    def test_by_chance(self):
        for blended in BLENDS:
            place = told_place(blended)
            if not within_limits(blended, place):
                continue
            apart = sorted([n for n in told_row(blended, place) if n <= place])
            told = judge_nought(blended)
            self.gives(told, judge_nought, blended)
            self.assertTrue(told_holds(told, apart, place, ("nought", "term")))
            for n in range(told_lowest(blended) - 2, place + 3):
                self.assertIs(nought_holds(blended, ("term", n)), n in apart)

    def test_all_certificates_of_a_few(self):
        some = self.differences()
        for blended in (some[0], some[4], some[21], some[22], some[23], DELTA, EISEN, FOUR,
                        blend((product((1, 24), (2, -24)), 1), (product(), 24)), blend((product((4, 6)), 1))):
            place = told_place(blended)
            apart = list(told_row(blended, place))
            for thing in many_things(place, told_lowest(blended), judge_nought(blended)):
                self.gives(told_holds(thing, apart, place, ("nought", "term")), nought_holds, blended, thing)

    def test_first_term_at_the_place(self):
        for blended, n in ((DELTA, 1), (blend((product((60, 48)), 1)), 120), (blend((product((1, -24)), 1)), -1)):
            self.gives(("term", n), judge_nought, blended)
            self.gives(True, nought_holds, blended, ("term", n))
            self.gives(False, nought_holds, blended, ("term", n + 1))
            self.gives(False, nought_holds, blended, ("nought", n))

    def test_errors(self):
        for thing in NO_BLENDS:
            self.refuses_thing(BadBlend, thing, place_of, thing)
            self.refuses_thing(BadBlend, thing, judge_nought, thing)
            self.refuses_thing(BadBlend, thing, nought_holds, thing, ("nought", 0))
            self.refuses_thing(BadBlend, thing, nought_holds, thing, None)
