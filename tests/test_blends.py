"""Point 7.2: blends, their rows, and blends made of blends."""
import random
from fractions import Fraction

from firstterms.blends import (
    added_blends, blend_level, blend_sign, blend_terms, blend_weight, is_blend, is_smooth, lowest, scaled, spread_blend)
from firstterms.errors import BadBlend, BadCount, BadNumber, OtherSign, OtherWeight, TooMany
from tests.helpers import HUGE, NO_COUNTS, NO_INTEGERS, NO_NUMBERS, CallCase, beginning_of, pair, spoiled
from tests.pool import (
    GREAT, NOT_WHOLE, PIECES, POOL, TOO_GREAT, blend, form, product, some_blends, told_blend_facts, told_facts,
    told_lowest, told_piece_order, told_row, total)
from tests.test_forms import FIVE, SQUARES, THREE, diagonal
from tests.test_orders import told_divisors
from tests.test_pieces import NO_PIECES

ONE = (1, 1)
DELTA, EISEN = blend((product((1, 24)), 1)), blend((total(4, 1, 1), 240))
FOUR = blend((form(SQUARES[1]), 1))
POLE = blend((product((1, 24), (2, -24)), 1))
EIGHT = blend(*[(total(4, 1, 1, t), 1) for t in (1, 2, 3, 4, 5, 6, 10, 12)])
BLENDS = some_blends(random.Random(74))
NO_BLENDS = NO_PIECES + (
    ((),), ((total(4, 1, 1),),), ((total(4, 1, 1), ONE, ONE),), (total(4, 1, 1), ONE), [(total(4, 1, 1), ONE)],
    ([total(4, 1, 1), ONE],), ((total(4, 1, 1), 1),), ((total(4, 1, 1), [1, 1]),), ((total(4, 1, 1), (0, 1)),),
    ((total(4, 1, 1), (2, 2)),), ((total(4, 1, 1), (0, 2)),), ((total(4, 1, 1), (1, -1)),), ((total(4, 1, 1), (-1, -1)),),
    ((total(4, 1, 1), (1, 0)),), ((total(4, 1, 1), (True, 1)),), ((total(4, 1, 1), (1, True)),),
    ((total(4, 1, 1), (HUGE * 3, 3)),), ((total(4, 1, 1), None),), ((None, ONE),), ((ONE, total(4, 1, 1)),),
    ((total(4, 1, 1), ONE), (total(4, 1, 1), ONE)), ((total(4, 1, 1), ONE), (total(4, 1, 1), (2, 1))),
    ((total(4, 1, 1, 2), ONE), (total(4, 1, 1, 1), ONE)), ((total(4, 1, 1), ONE), (form(SQUARES[3]), ONE)),
    ((total(4, 1, 1), ONE), (product((1, 16), (2, -8)), ONE)), ((total(4, 1, 1), ONE), (total(6, 1, 1), ONE)),
    ((total(2, 1, 1, 2), ONE), (total(2, 1, 5), ONE)), ((total(4, 1, 1), ONE), None), ((total(4, 1, 1), ONE), ()),
    ((product((1, 24)), ONE), (total(4, 1, 1), ONE)), (((("sum", 4, 1, 1), 1), ONE),), "sum", {total(4, 1, 1): ONE},
)


def is_told_smooth(blended):
    return all(told_piece_order(piece, told_facts(piece)[1], c) >= 0
               for piece, number in blended for c in told_divisors(told_facts(piece)[1]))


def told_terms_of(blended, first, many):
    row = told_row(blended, first + many - 1)
    return beginning_of([row.get(n, Fraction(0)) for n in range(first, first + many)])


def refuse_with(case, error, thing, *args):
    """Each function with a blend refuses a value, also if the other arguments are wrong."""
    for function in (blend_weight, blend_level, blend_sign, lowest, is_smooth):
        case.refuses_thing(error, thing, function, thing)
    case.refuses_thing(error, thing, blend_terms, thing, 0, 1)
    case.refuses_thing(error, thing, blend_terms, thing, None, None)
    case.refuses_thing(error, thing, scaled, thing, ONE)
    case.refuses_thing(error, thing, scaled, thing, (0, 1))
    case.refuses_thing(error, thing, spread_blend, thing, 1)
    case.refuses_thing(error, thing, spread_blend, thing, 0)
    case.refuses_thing(error, thing, added_blends, thing, EISEN)
    case.refuses_thing(error, thing, added_blends, DELTA, thing)
    case.refuses_thing(error, thing, added_blends, thing, None)


class IsBlendTest(CallCase):
    def test_ordinary(self):
        self.assertGreater(len(BLENDS), 50)
        for thing in BLENDS + [DELTA, EISEN, FOUR, POLE, EIGHT]:
            self.assertIsNotNone(told_blend_facts(thing))
            self.gives(True, is_blend, thing)

    def test_each_piece_alone(self):
        for piece in PIECES + GREAT:
            self.gives(True, is_blend, ((piece, ONE),))
        for piece in TOO_GREAT + NOT_WHOLE:
            self.gives(False, is_blend, ((piece, ONE),))

    def test_how_many_pieces(self):
        nine = tuple([(total(4, 1, 1, t), ONE) for t in (1, 2, 3, 4, 5, 6, 10, 12, 15)])
        self.assertEqual(len(nine), 9)
        self.gives(True, is_blend, nine[:8])
        self.gives(True, is_blend, nine[1:])
        self.gives(False, is_blend, nine)
        self.gives(False, is_blend, ())

    def test_order_and_repeats(self):
        pieces = [form(SQUARES[1]), product((1, 8), (2, -4)), total(2, -4, -4, 2), total(2, 1, 1, 2), total(2, 1, 1, 4)]
        for i, one in enumerate(pieces):
            for j, other in enumerate(pieces):
                self.gives(i < j, is_blend, ((one, ONE), (other, ONE)))
                self.gives(i < j, is_blend, ((one, (9, 1)), (other, (-9, 1))))

    def test_unlike_weights_and_signs(self):
        groups = list(POOL.items())
        for (weight, sign), some in groups:
            for (other_weight, other_sign), others in groups:
                thing = blend((some[0], 1), (others[1 % len(others)], 2))
                same = (weight, sign) == (other_weight, other_sign) and len(some) > 1
                self.gives(same, is_blend, thing)

    def test_levels(self):
        for one, other, expected in ((16, 25, True), (20, 400, True), (200, 80, True), (16, 50, True), (17, 24, False),
                                     (19, 21, True), (20, 21, False), (399, 397, False), (3, 134, False), (3, 133, True)):
            self.gives(expected, is_blend, ((total(4, 1, 1, min(one, other)), ONE), (total(4, 1, 1, max(one, other)), ONE)))

    def test_wrong_values(self):
        for thing in NO_BLENDS:
            self.assertIsNone(told_blend_facts(thing), thing)
            self.gives(False, is_blend, thing)
            refuse_with(self, BadBlend, thing)

    def test_near_values(self):
        kinds = {True: 0, False: 0}
        for blended in (EISEN, blend((form(THREE), (1, 6)), (total(1, -3, 1), -1)), POLE,
                        blend((product((1, 8), (2, -4)), (3, 2)), (total(2, 1, 1, 4), (-5, 3)))):
            for thing in spoiled(blended):
                good = told_blend_facts(thing) is not None
                kinds[good] += 1
                self.gives(good, is_blend, thing)
                if not good:
                    self.refuses_thing(BadBlend, thing, blend_level, thing)
                    self.refuses_thing(BadBlend, thing, added_blends, blended, thing)
        self.assertGreater(min(kinds.values()), 30)


class FactsTest(CallCase):
    def test_by_the_words(self):
        for blended in BLENDS + [DELTA, EISEN, FOUR, POLE, EIGHT]:
            weight, level, sign = told_blend_facts(blended)
            self.gives(weight, blend_weight, blended)
            self.gives(level, blend_level, blended)
            self.gives(sign, blend_sign, blended)
            self.gives(told_lowest(blended), lowest, blended)
            self.gives(is_told_smooth(blended), is_smooth, blended)
        self.assertEqual({is_told_smooth(blended) for blended in BLENDS}, {True, False})

    def test_edges(self):
        self.assertEqual([blend_weight(DELTA), blend_level(FOUR), is_smooth(DELTA), lowest(POLE)], [12, 4, True, -1])
        for piece in GREAT:
            self.gives(400, blend_level, ((piece, ONE),))
        self.gives(400, blend_level, ((total(4, 1, 1, 16), ONE), (total(4, 1, 1, 25), ONE)))
        self.gives(60, blend_level, EIGHT)
        self.gives(False, is_smooth, POLE)
        self.gives(False, is_smooth, blend((product((1, 24), (2, -24)), (1, 7)), (product(), 1)))
        self.gives(True, is_smooth, blend((product(), 1)))
        self.gives(-3, lowest, blend((product((1, -24), (2, -24)), 1)))
        self.gives(-2, lowest, blend((product((1, -48), (2, 24)), 1), (product((2, -24)), 1)))
        self.gives(0, lowest, blend((product((1, 24)), 1), (product((2, 24)), 1)))


class TermsTest(CallCase):
    def test_examples(self):
        self.gives((1, (0, 1, -24, 252, -1472)), blend_terms, DELTA, 0, 5)
        self.gives((1, (1, 240, 2160)), blend_terms, EISEN, 0, 3)
        self.gives((1, (0, 1, 8, 24)), blend_terms, FOUR, -1, 4)

    def test_by_the_pieces(self):
        for blended in BLENDS:
            for first, many in ((0, 1), (0, 5), (-1, 3), (1, 4), (3, 1), (-4, 9), (-7, 2)):
                self.gives(told_terms_of(blended, first, many), blend_terms, blended, first, many)

    def test_first_from_far_below_to_far_above(self):
        for blended in (DELTA, POLE, blend((total(2, 1, 1, 4), (8, 3)), (product((1, 2), (11, 2)), 1)),
                        blend((product((1, -24)), 1), (product((1, -48), (2, 24)), (1, 2))), EIGHT,
                        blend((form(SQUARES[0]), 1), (total(1, -4, 1), (-4, 1))),
                        blend((form(((2, 1), (1, 12))), 1), (form(((4, 1), (1, 6))), (-1, 1)), (product((1, 1), (23, 1)), 5))):
            for first, many in ((-100, 200), (-100, 1), (-100, 97), (200, 200), (200, 1), (0, 200), (-3, 1), (199, 2),
                                (-1, 200), (1, 200), (2, 1), (24, 25)):
                self.gives(told_terms_of(blended, first, many), blend_terms, blended, first, many)

    def test_start_far_away(self):
        late, early = blend((product((400, 48)), 1)), blend((product((200, -24)), 1))
        self.assertEqual([told_lowest(late), told_lowest(early)], [0, -200])
        self.gives((1, (0,) * 200), blend_terms, late, 200, 200)
        self.gives((1, (0, 1, 0)), blend_terms, late, 799, 3)
        self.gives((1, (0, 1, 0)), blend_terms, early, -201, 3)
        self.gives(told_terms_of(early, -100, 150), blend_terms, early, -100, 150)
        self.gives(told_terms_of(early, -250, 400), blend_terms, early, -250, 400)
        self.gives((1, (0,) * 7), blend_terms, EISEN, -HUGE, 7)

    def test_wrong_values(self):
        for thing in NO_INTEGERS + ((1, 1),):
            self.refuses_thing(BadNumber, thing, blend_terms, DELTA, thing, 3)
            self.refuses_thing(BadNumber, thing, blend_terms, DELTA, thing, 0)
        for thing in NO_COUNTS:
            self.refuses_thing(BadCount, thing, blend_terms, DELTA, 0, thing)


class ScaledTest(CallCase):
    def test_by_the_numbers(self):
        for blended in BLENDS:
            for number in ((1, 1), (-1, 1), (2, 4), (-9, 6), (HUGE, 3 * HUGE)):
                expected = tuple([(piece, pair(Fraction(*own) * Fraction(*number))) for piece, own in blended])
                self.gives(expected, scaled, blended, number)
                self.assertTrue(is_blend(expected))

    def test_wrong_numbers(self):
        for thing in NO_NUMBERS + ((0, 1), (0, 7)):
            self.refuses_thing(BadNumber, thing, scaled, DELTA, thing)


class AddedTest(CallCase):
    def test_examples(self):
        self.gives(None, added_blends, DELTA, scaled(DELTA, (-1, 1)))

    def test_term_by_term(self):
        kinds = {"none": 0, "many": 0, "level": 0, "some": 0}
        for one in BLENDS:
            for other in BLENDS:
                if told_blend_facts(one)[::2] != told_blend_facts(other)[::2]:
                    continue
                numbers = {}
                for piece, number in one + other:
                    numbers[piece] = numbers.get(piece, 0) + Fraction(*number)
                pairs = tuple(sorted([(piece, pair(number)) for piece, number in numbers.items() if number]))
                if len(pairs) > 8:
                    kinds["many"] += 1
                    self.refuses(TooMany, {"most": 8}, added_blends, one, other)
                elif pairs and told_blend_facts(pairs) is None:
                    kinds["level"] += 1
                    self.refuses(TooMany, {"most": 400}, added_blends, one, other)
                else:
                    kinds["some" if pairs else "none"] += 1
                    self.gives(pairs or None, added_blends, one, other)
        self.assertGreater(kinds["some"], 100)
        for blended in BLENDS:
            self.gives(None, added_blends, blended, scaled(blended, (-1, 1)))
            self.gives(scaled(blended, (2, 1)), added_blends, blended, blended)

    def test_rows_are_added(self):
        one = blend((total(2, 1, 1, 4), (8, 3)), (product((1, 2), (11, 2)), 1))
        other = blend((total(2, 1, 1, 4), (1, 3)), (form(SQUARES[1]), (-1, 2)), (product((1, 2), (11, 2)), -1))
        both = blend((form(SQUARES[1]), (-1, 2)), (total(2, 1, 1, 4), 3))
        self.gives(both, added_blends, one, other)
        for n in range(-2, 30):
            self.assertEqual(told_row(both, 30).get(n, 0), told_row(one, 30).get(n, 0) + told_row(other, 30).get(n, 0))

    def test_eight_and_nine(self):
        nine = tuple([(total(4, 1, 1, t), ONE) for t in (1, 2, 3, 4, 5, 6, 10, 12, 15)])
        for k in range(1, 9):
            self.refuses(TooMany, {"most": 8}, added_blends, nine[:k], nine[k:])
            if k > 1:
                self.gives(nine[1:], added_blends, nine[:k], ((nine[0][0], (-1, 1)),) + nine[k:])
        less = ((nine[0][0], (-1, 1)),) + nine[1:8]
        self.gives(tuple([(piece, (2, 1)) for piece, number in nine[1:8]]), added_blends, nine[:8], less)
        self.gives(nine[1:], added_blends, nine[:8], ((nine[0][0], (-1, 1)), nine[8]))
        # With nine pieces it is 8, also if the level is too great.
        self.refuses(TooMany, {"most": 8}, added_blends, nine[:8], ((total(4, 1, 1, 399), ONE),))

    def test_levels(self):
        def one(t, number=1):
            return ((total(4, 1, 1, t), (number, 1)),)

        self.gives(one(16) + one(25), added_blends, one(16), one(25))
        self.refuses(TooMany, {"most": 400}, added_blends, one(17), one(25))
        self.refuses(TooMany, {"most": 400}, added_blends, one(3), one(200))
        self.refuses(TooMany, {"most": 400}, added_blends, one(11) + one(13), one(3))
        # Only the level of what is left counts.
        self.gives(one(200), added_blends, one(1), one(1, -1) + one(200))
        self.gives(one(13) + one(26), added_blends, one(11) + one(13), one(11, -1) + one(26))
        self.gives(one(3) + one(133), added_blends, one(2) + one(3), one(2, -1) + one(133))

    def test_other_weights_and_signs(self):
        self.refuses_thing(OtherWeight, EISEN, added_blends, DELTA, EISEN)
        self.refuses_thing(OtherWeight, DELTA, added_blends, EISEN, DELTA)
        five = blend((total(2, 1, 5), 1))
        self.refuses_thing(OtherSign, five, added_blends, FOUR, five)
        self.refuses_thing(OtherSign, FOUR, added_blends, five, FOUR)
        three = blend((form(THREE), 1))
        self.refuses_thing(OtherWeight, three, added_blends, five, three)
        self.refuses_thing(OtherWeight, five, added_blends, three, five)
        minus = blend((product((1, -24)), 1))
        self.refuses_thing(OtherWeight, minus, added_blends, DELTA, minus)


def told_spread(blended, t):
    """The pairs of point 7.2's spread blend, each piece with its number."""
    numbers = {}
    for piece, number in blended:
        number = Fraction(*number)
        if piece[0] == "product":
            made = [(("product", tuple([(t * d, r) for d, r in piece[1]])), number)]
        elif piece[0] == "form":
            made = [(("form", tuple([tuple([t * entry for entry in row]) for row in piece[1]])), number)]
        elif piece[:4] == ("sum", 2, 1, 1) and t > 1:
            made = [(piece[:4] + (t * piece[4],), number / t), (piece[:4] + (t,), -number / t)]
        else:
            made = [(piece[:4] + (t * piece[4],), number)]
        for other, factor in made:
            numbers[other] = numbers.get(other, 0) + factor
    return tuple(sorted([(piece, pair(number)) for piece, number in numbers.items() if number]))


class SpreadTest(CallCase):
    def test_examples(self):
        self.gives(blend((total(2, 1, 1, 2), (-1, 2)), (total(2, 1, 1, 4), (1, 2))), spread_blend,
                   blend((total(2, 1, 1, 2), 1)), 2)

    def test_term_by_term(self):
        kinds = {"good": 0, "great": 0}
        for blended in BLENDS:
            for t in (1, 2, 3, 4, 7, 30):
                expected = told_spread(blended, t)
                if len(expected) > 8:
                    self.refuses(TooMany, {"most": 8}, spread_blend, blended, t)
                elif told_blend_facts(expected) is None:
                    kinds["great"] += 1
                    self.refuses(TooMany, {"most": 400}, spread_blend, blended, t)
                else:
                    kinds["good"] += 1
                    self.gives(expected, spread_blend, blended, t)
                    self.assertEqual(told_blend_facts(expected)[::2], told_blend_facts(blended)[::2])
                    row = told_row(blended, 3)
                    spread = {t * n: term for n, term in row.items()}
                    self.assertEqual(told_row(expected, 3 * t if t < 5 else 3),
                                     {n: term for n, term in spread.items() if t < 5 or n <= 3})
        self.assertGreater(min(kinds.values()), 20)

    def test_once(self):
        for blended in BLENDS:
            self.gives(blended, spread_blend, blended, 1)

    def test_the_weight_two(self):
        for s in (2, 3, 4, 6):
            for t in (1, 2, 3, 4, 6):
                blended = blend((total(2, 1, 1, s), (5, 3)))
                made = told_spread(blended, t)
                self.gives(made, spread_blend, blended, t)
                self.assertEqual(len(made), 1 if t == 1 else 2)
        both = blend((total(2, 1, 1, 2), 1), (total(2, 1, 1, 3), 2))
        self.gives(blend((total(2, 1, 1, 2), (-3, 2)), (total(2, 1, 1, 4), (1, 2)), (total(2, 1, 1, 6), 1)), spread_blend, both, 2)
        away = blend((total(2, 1, 1, 2), 1), (total(2, 1, 1, 3), -1))
        self.gives(blend((total(2, 1, 1, 4), (1, 2)), (total(2, 1, 1, 6), (-1, 2))), spread_blend, away, 2)
        self.gives(blend((total(2, 1, 1, 400), (1, 200)), (total(2, 1, 1, 200), (-1, 200))), spread_blend,
                   blend((total(2, 1, 1, 2), 1)), 200)
        self.refuses(TooMany, {"most": 400}, spread_blend, blend((total(2, 1, 1, 2), 1)), 201)
        other = blend((total(2, 5, 5), 2), (total(2, -3, -3), 1))
        self.gives(blend((total(2, 5, 5, 1), 2), (total(2, -3, -3, 1), 1)), spread_blend, other, 1)
        self.refuses(TooMany, {"most": 400}, spread_blend, other, 2)
        self.gives(blend((total(2, -3, -3, 5), 1)), spread_blend, blend((total(2, -3, -3), 1)), 5)

    def test_eight_and_nine(self):
        eight = blend(*[(total(2, 1, 1, s), 1) for s in (2, 3, 4, 5, 6, 10, 12, 15)])
        self.refuses(TooMany, {"most": 8}, spread_blend, eight, 2)
        # With too many pieces it is 8, however great the integers are.
        self.refuses(TooMany, {"most": 8}, spread_blend, eight, 200)
        self.refuses(TooMany, {"most": 8}, spread_blend, eight, HUGE)
        numbers = (1, 2, 3, 4, -1, -2, -3, -4)
        even = blend(*[(total(2, 1, 1, s), number) for s, number in zip((2, 3, 4, 5, 6, 10, 12, 15), numbers)])
        self.gives(told_spread(even, 2), spread_blend, even, 2)
        self.assertEqual(len(told_spread(even, 2)), 8)
        self.refuses(TooMany, {"most": 400}, spread_blend, even, 8)
        seven = blend(*[(total(2, 1, 1, s), 1) for s in (2, 3, 4, 5, 6, 10, 12)])
        self.gives(told_spread(seven, 2), spread_blend, seven, 2)
        self.gives(told_spread(EIGHT, 3), spread_blend, EIGHT, 3)

    def test_bounds_of_each_kind(self):
        for blended, last in ((blend((total(4, 1, 1), 1)), 400), (blend((total(4, 1, 1, 3), 1)), 133),
                              (blend((product((1, 24)), 1)), 400), (blend((form(SQUARES[1]), 1)), 50),
                              (blend((form(diagonal(2, 8)), 1)), 12), (blend((total(1, -4, 1), 1)), 100),
                              (blend((product((1, -1), (5, 5)), 1)), 80), (blend((form(FIVE), 1)), 25)):
            self.gives(told_spread(blended, last), spread_blend, blended, last)
            for t in (last + 1, 2 * last, 401, 10 ** 9, HUGE):
                self.refuses(TooMany, {"most": 400}, spread_blend, blended, t)
        self.gives(blend((product(), 3)), spread_blend, blend((product(), 3)), HUGE)
        # The level is 400 times as great here, though each integer is small.
        self.refuses(TooMany, {"most": 400}, spread_blend, blend((product((4, 6)), 1)), 26)

    def test_where_only_the_level_is_too_great(self):
        two = blend((total(4, 1, 1, 16), 1), (total(4, 1, 1, 25), 1))
        self.gives(two, spread_blend, two, 1)
        self.refuses(TooMany, {"most": 400}, spread_blend, two, 2)
        self.refuses(TooMany, {"most": 400}, spread_blend, blend((form(((2, 1), (1, 40))), 1)), 6)
        self.refuses(TooMany, {"most": 400}, spread_blend, blend((product((1, 1), (23, 1)), 1)), 18)

    def test_wrong_values(self):
        for thing in NO_INTEGERS + (0, -1, -HUGE, (1, 1)):
            self.refuses_thing(BadNumber, thing, spread_blend, DELTA, thing)
