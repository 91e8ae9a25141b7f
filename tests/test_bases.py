"""Points 8.2 and 8.3: how many rows there are, and bases."""
import random
from fractions import Fraction
from itertools import combinations

from firstterms.bases import base_holds, dimension, genus_of, inner_dimension, judge_base
from firstterms.blends import added_blends, scaled
from firstterms.errors import BadBlends, BadLevel, BadWeight, HasPole, OtherLevel, OtherSign, OtherWeight
from tests.helpers import HUGE, NO_INTEGERS, NO_LEVELS, CallCase, expanded, is_int, pair, spoiled
from tests.pool import blend, form, product, told_blend_facts, told_index, told_piece_order, total
from tests.test_blends import DELTA, EISEN, FOUR, NO_BLENDS
from tests.test_equal import EQUAL
from tests.test_forms import D4, E8
from tests.test_orders import told_divisors
from tests.test_within import rank_of, told_rows

# The genus of each level from 1 to 50, as tables of it tell.
GENERA = (0, 0, 0, 0, 0, 0, 0, 0, 0, 0, 1, 0, 0, 1, 1, 0, 1, 0, 1, 1, 1, 2, 2, 1, 0,
          2, 1, 2, 2, 3, 2, 1, 3, 3, 3, 1, 2, 4, 3, 3, 3, 5, 3, 4, 3, 5, 4, 3, 1, 2)
NO_WEIGHTS = NO_INTEGERS + (0, 1, 3, 5, 23, 25, 26, -2, -24, HUGE, 2 * HUGE, -2 * HUGE, (2, 1), (2,), "2")


def sums(weight, *spreads):
    return tuple([blend((total(weight, 1, 1, t), 1)) for t in spreads])


def products(*some):
    return tuple([blend((product(*pairs), 1)) for pairs in some])


ELEVEN = sums(2, 11) + products(((1, 2), (11, 2)))
# Level, weight, and blends that are known to be a base.
BASES = (
    (4, 2, sums(2, 2, 4)), (2, 2, sums(2, 2)), (11, 2, ELEVEN), (1, 12, sums(12, 1) + (DELTA,)), (1, 4, (EISEN,)),
    (2, 4, sums(4, 1, 2)), (4, 4, sums(4, 1, 2, 4)), (8, 4, sums(4, 1, 2, 4, 8) + products(((2, 4), (4, 4)))),
    (6, 2, sums(2, 2, 3, 6)), (14, 2, sums(2, 2, 7, 14) + products(((1, 1), (2, 1), (7, 1), (14, 1)))),
    (9, 2, sums(2, 3, 9) + (blend((total(2, -3, -3), 1)),)), (5, 4, sums(4, 1, 5) + products(((1, 4), (5, 4)))),
    (6, 4, sums(4, 1, 2, 3, 6) + products(((1, 2), (2, 2), (3, 2), (6, 2)))), (4, 2, (FOUR, sums(2, 2)[0])),
    (15, 2, sums(2, 3, 5, 15) + products(((1, 1), (3, 1), (5, 1), (15, 1)))),
    (2, 8, sums(8, 1, 2) + products(((1, 8), (2, 8)))), (3, 6, sums(6, 1, 3) + products(((1, 6), (3, 6)))),
    (24, 2, sums(2, 2, 3, 4, 6, 8, 12, 24) + products(((2, 1), (4, 1), (6, 1), (12, 1)))),
)


def told_numbers(level):
    """The genus, how many edges, e and h of point 8.2, counted out."""
    around = [len([x for x in range(level) if divmod(x * x + y * x + 1, level)[1] == 0]) for y in (0, 1)]
    edges = sum([sum([1 for x in range(1, g + 1) if Fraction(x, g).denominator == g]) for g in widths_of(level)])
    genus = 1 + Fraction(told_index(level), 12) - Fraction(around[0], 4) - Fraction(around[1], 3) - Fraction(edges, 2)
    return genus, edges, around[0], around[1]


def widths_of(level):
    """For each divisor the greatest common divisor with the other one, found by trying."""
    return [max([g for g in range(1, level + 1) if d % g == 0 and (level // d) % g == 0]) for d in told_divisors(level)]


def told_dimension(level, weight):
    genus, edges, e, h = told_numbers(level)
    if weight == 2:
        return genus + edges - 1
    return (weight - 1) * (genus - 1) + (weight // 4) * e + (weight // 3) * h + weight * edges // 2


def told_rows_of(level, weight, blends):
    return told_rows(blends[0], blends, weight * told_index(level) // 12)[1:]


def told_holds(level, weight, blends, thing):
    """Point 8.3, word by word; sums of smooth rows are 0 for all n if they are up to the place."""
    size, rows = told_dimension(level, weight), told_rows_of(level, weight, blends)
    if not isinstance(thing, tuple) or len(thing) != 2:
        return False
    if thing[0] == "few":
        return is_int(thing[1]) and thing[1] == size and len(blends) < size
    if not isinstance(thing[1], tuple) or not all(is_int(item) for item in thing[1]):
        return False
    if thing[0] == "base":
        if len(thing[1]) != size or len(blends) != size or sorted(set(thing[1])) != list(thing[1]):
            return False
        if thing[1][0] < 0 or thing[1][-1] >= len(rows[0]):
            return False
        return expanded([[row[n] for n in thing[1]] for row in rows]) != 0
    if thing[0] != "relation" or len(thing[1]) != len(blends) or not any(thing[1]):
        return False
    return not any([sum([item * term for item, term in zip(thing[1], terms)]) for terms in zip(*rows)])


class DimensionTest(CallCase):
    def test_examples(self):
        self.assertEqual([genus_of(11), dimension(4, 2), dimension(1, 12), dimension(11, 2), inner_dimension(11, 2),
                          dimension(8, 4), inner_dimension(8, 4)], [1, 2, 2, 2, 1, 5, 1])

    def test_genus(self):
        for level in range(1, 401):
            genus = told_numbers(level)[0]
            self.assertEqual(genus.denominator, 1)
            self.gives(int(genus), genus_of, level)
        self.assertEqual(tuple([genus_of(level) for level in range(1, 51)]), GENERA)

    def test_dimensions(self):
        for level in list(range(1, 61)) + [64, 72, 81, 97, 100, 144, 199, 256, 289, 343, 360, 385, 397, 399, 400]:
            for weight in range(2, 25, 2):
                size = told_dimension(level, weight)
                self.gives(int(size), dimension, level, weight)
                genus, edges, e, h = told_numbers(level)
                self.gives(int(genus if weight == 2 else size - edges), inner_dimension, level, weight)

    def test_level_one(self):
        self.assertEqual([dimension(1, weight) for weight in range(2, 25, 2)], [0, 1, 1, 1, 1, 2, 1, 2, 2, 2, 2, 3])
        self.assertEqual([inner_dimension(1, weight) for weight in range(2, 25, 2)],
                         [0, 0, 0, 0, 0, 1, 0, 1, 1, 1, 1, 2])

    def test_inner_products(self):
        """Of more products with orders above 0 than the inner dimension one is a sum of the others."""
        for level, weight, some in ((11, 2, [((1, 2), (11, 2))]), (2, 8, [((1, 8), (2, 8))]), (1, 12, [((1, 24),)]),
                                    (2, 12, [((1, 24),), ((2, 24),)]), (8, 4, [((2, 4), (4, 4))]),
                                    (16, 4, [((2, 4), (4, 4)), ((4, 4), (8, 4)), ((2, -4), (4, 16), (8, -4))])):
            inner = [pairs for pairs in some
                     if all(told_piece_order(product(*pairs), level, c) > 0 for c in told_divisors(level))]
            rows = told_rows_of(level, weight, products(*inner))
            self.assertLessEqual(rank_of(rows), inner_dimension(level, weight))
            self.assertEqual(rank_of(rows) == len(rows), len(rows) <= inner_dimension(level, weight))

    def test_errors(self):
        for thing in NO_LEVELS:
            self.refuses_thing(BadLevel, thing, genus_of, thing)
            for function in (dimension, inner_dimension):
                self.refuses_thing(BadLevel, thing, function, thing, 2)
                self.refuses_thing(BadLevel, thing, function, thing, 3)
                self.refuses_thing(BadLevel, thing, function, thing, None)
        for thing in NO_WEIGHTS:
            for level in (1, 2, 400):
                self.refuses_thing(BadWeight, thing, dimension, level, thing)
                self.refuses_thing(BadWeight, thing, inner_dimension, level, thing)


class BaseTest(CallCase):
    def check_certificate(self, level, weight, blends):
        """The certificate that is returned, against the words."""
        told = judge_base(level, weight, blends)
        self.assertTrue(told_holds(level, weight, blends, told), (level, weight, blends, told))
        rows, size = told_rows_of(level, weight, blends), told_dimension(level, weight)
        self.assertEqual(told[0] == "base", rank_of(rows) == len(rows) == size)
        self.gives(told, judge_base, level, weight, blends)
        self.gives(True, base_holds, level, weight, blends, told)
        return told

    def test_examples(self):
        self.assertEqual([judge_base(4, 4, sums(4, 1, 2, 4)), judge_base(1, 12, (DELTA,)),
                          judge_base(2, 4, sums(4, 1))],
                         [("base", (0, 1, 2)), ("few", 2), ("few", 2)])

    def test_known_bases(self):
        for level, weight, blends in BASES:
            self.assertEqual(len(blends), told_dimension(level, weight))
            self.assertEqual(self.check_certificate(level, weight, blends)[0], "base")
            self.assertEqual(self.check_certificate(level, weight, blends[::-1])[0], "base")
            if len(blends) > 1:
                self.gives(("few", len(blends)), judge_base, level, weight, blends[1:])
                self.gives(("few", len(blends)), judge_base, level, weight, blends[:1])

    def test_relations(self):
        maker = random.Random(84)
        for level, weight, blends in BASES:
            for made in (blends + blends[:1], blends[1:] + (scaled(blends[-1], (-7, 3)),), blends * 2):
                if len(made) <= 12 and len(made) > 1:
                    self.assertEqual(self.check_certificate(level, weight, made)[0], "relation")
            drawn = {}
            for one in blends:
                factor = Fraction(maker.randint(1, 5), maker.randint(1, 5))
                for piece, number in one:
                    drawn[piece] = drawn.get(piece, 0) + factor * Fraction(*number)
            mixed = blend(*[(piece, pair(number)) for piece, number in drawn.items()])
            if told_blend_facts(mixed) is not None:
                made = blends[:1] + (mixed,) + blends[1:]
                word, numbers = self.check_certificate(level, weight, made)
                self.assertEqual(word, "relation")
                self.check_far(made, numbers)

    def check_far(self, blends, numbers):
        """The sum of the rows, each times its integer, is 0 far beyond the place."""
        unknowns = [len(piece[1]) for one in blends for piece, number in one if piece[0] == "form"]
        rows = told_rows(blends[0], blends, {2: 120, 4: 40, 6: 10, 8: 4}[max(unknowns, default=2)])[1:]
        for terms in zip(*rows):
            self.assertEqual(sum([number * term for number, term in zip(numbers, terms)]), 0)

    def test_known_relations(self):
        for one, other in EQUAL:
            weight, level, sign = told_blend_facts(one)
            if weight % 2 == 0 and weight > 0 and sign == 1:
                wide = max(level, told_blend_facts(other)[1])
                for blends in ((one, other), (scaled(other, (2, 5)), one)):
                    if told_dimension(wide, weight) <= 2:
                        word, numbers = self.check_certificate(wide, weight, blends)
                        self.assertEqual(word, "relation")
                        self.check_far(blends, numbers)
                    numbers = (1, -1) if blends[0] is one else (5, -2)
                    self.gives(True, base_holds, wide, weight, blends, ("relation", numbers))
                    self.gives(False, base_holds, wide, weight, blends, ("relation", numbers[::-1]) if numbers[0] > 1
                               else ("relation", (1, 1)))
        more = (FOUR, blend((form(D4), 1)), sums(2, 2)[0], sums(2, 4)[0],
                blend((product((1, -8), (2, 20), (4, -8)), 1)))
        word, numbers = self.check_certificate(4, 2, more)
        self.check_far(more, numbers)

    def test_few_and_a_relation(self):
        """Fewer blends than the dimension can be tied together as well; both certificates are right."""
        blends = sums(4, 1, 1)
        self.gives(("few", 5), judge_base, 8, 4, blends)
        self.gives(True, base_holds, 8, 4, blends, ("relation", (1, -1)))
        self.gives(True, base_holds, 8, 4, blends, ("few", 5))
        self.gives(False, base_holds, 8, 4, blends, ("base", (0, 1)))

    def test_rows_of_nought(self):
        nought = added_blends(FOUR, scaled(sums(2, 4)[0], (-8, 1)))
        self.assertEqual(self.check_certificate(4, 2, (nought, FOUR))[0], "relation")
        self.assertEqual(self.check_certificate(4, 2, (FOUR, nought))[0], "relation")
        self.assertEqual(self.check_certificate(4, 2, (nought,))[0], "few")
        self.assertEqual(self.check_certificate(2, 4, sums(4, 1) * 2)[0], "relation")
        for numbers, expected in (((1, 0), True), ((-HUGE, 0), True), ((0, 0), False), ((1, 1), False),
                                  ((0, 1), False)):
            self.gives(expected, base_holds, 4, 2, (nought, FOUR), ("relation", numbers))

    def test_all_places(self):
        """Each choice of places against the determinant of the terms."""
        for level, weight, blends in BASES:
            rows = told_rows_of(level, weight, blends)
            kinds = {True: 0, False: 0}
            for places in list(combinations(range(-1, len(rows[0]) + 1), len(blends)))[:400]:
                expected = told_holds(level, weight, blends, ("base", places))
                kinds[expected] += 1
                self.assertIs(base_holds(level, weight, blends, ("base", places)), expected, (level, weight, places))
            self.assertGreater(min(kinds.values()), 0)
            places = judge_base(level, weight, blends)[1]
            self.gives(len(places) == 1, base_holds, level, weight, blends, ("base", places[::-1]))
            self.gives(False, base_holds, level, weight, blends, ("base", places + places[-1:]))
            self.gives(False, base_holds, level, weight, blends, ("base", list(places)))

    def test_all_certificates_of_a_few(self):
        for level, weight, blends in (BASES[0], BASES[2], BASES[4], (4, 4, sums(4, 1, 2)), (2, 4, sums(4, 1, 2, 1)),
                                      (4, 2, (FOUR, sums(2, 4)[0]))):
            told = self.check_certificate(level, weight, blends)
            size = int(told_dimension(level, weight))
            rights = 0
            more = [("few", size), ("few", size + 1), ("few", size - 1), ("few", len(blends)), ("few", True),
                    ("few", (size,)),
                    ("relation", (0,) * len(blends)), ("relation", (1,) * len(blends)), ("relation", ()), ("base", ()),
                    ("base", tuple(range(size))), ("relation", None), ("base", None), ("few", None),
                    ("base", tuple(range(len(blends)))),
                    ("Base", told[1]), ("relation", told[1]), ("base", told[1]), ("few", told[1]), (), None, told[1]]
            for thing in list(spoiled(told)) + more + [told]:
                expected = told_holds(level, weight, blends, thing)
                rights += expected
                self.gives(expected, base_holds, level, weight, blends, thing)
            self.assertGreater(rights, 0)

    def test_bools(self):
        base = (4, 2, sums(2, 2, 4))
        self.gives(True, base_holds, *base, ("base", (0, 1)))
        self.gives(False, base_holds, *base, ("base", (False, True)))
        self.gives(False, base_holds, *base, ("base", (0, True)))
        self.gives(False, base_holds, 2, 2, sums(2, 2), ("base", (False,)))
        self.gives(False, base_holds, 2, 4, sums(4, 1), ("few", True))
        self.gives(True, base_holds, 2, 2, sums(2, 2, 2), ("relation", (1, -1)))
        self.gives(False, base_holds, 2, 2, sums(2, 2, 2), ("relation", (True, -1)))

    def test_how_many(self):
        twelve = sums(4, 1, 2, 4, 8, 1, 2, 4, 8, 1, 2, 4, 8)
        self.assertEqual(self.check_certificate(8, 4, twelve)[0], "relation")
        self.refuses_thing(BadBlends, twelve + (EISEN,), judge_base, 8, 4, twelve + (EISEN,))
        self.refuses_thing(BadBlends, (), judge_base, 8, 4, ())
        self.refuses_thing(BadBlends, (), base_holds, 1, 2, (), ("base", ()))
        self.gives(("base", (0,)), judge_base, 1, 4, (EISEN,))
        self.gives(("base", (0,)), judge_base, 1, 8, (blend((total(8, 1, 1), (-3, 7))),))

    def test_great_places(self):
        blends = sums(2, 2, 3, 4, 5, 6, 10, 12, 15, 20, 30, 60)
        self.assertEqual(told_index(60) * 2 // 12, 24)
        self.check_certificate(60, 2, blends)
        self.assertEqual(told_index(150), 360)
        self.check_certificate(150, 2, sums(2, 150, 75, 2))
        self.gives(("few", int(told_dimension(150, 2))), judge_base, 150, 2, sums(2, 150, 75, 2))
        self.check_certificate(12, 24, (blend((product((1, 48)), 1)),) * 2)


class ErrorTest(CallCase):
    FUNCTIONS = ((judge_base, ()), (base_holds, (("few", 5),)), (base_holds, (None,)))

    def refused(self, error, thing, *args):
        for function, rest in self.FUNCTIONS:
            self.refuses_thing(error, thing, function, *args, *rest)

    def test_levels_and_weights(self):
        for thing in NO_LEVELS:
            self.refused(BadLevel, thing, thing, 4, sums(4, 1))
            self.refused(BadLevel, thing, thing, 3, None)
        for thing in NO_WEIGHTS:
            self.refused(BadWeight, thing, 8, thing, sums(4, 1))
            self.refused(BadWeight, thing, 8, thing, None)

    def test_no_blends(self):
        for thing in NO_BLENDS:
            self.refused(BadBlends, (thing,), 8, 4, (thing,))
            self.refused(BadBlends, sums(4, 1) + (thing,), 8, 6, sums(4, 1) + (thing,))
        for thing in (None, 4, "few", list(sums(4, 1)), EISEN, {}, ((),), sums(4, 1) * 13, (sums(4, 1),)):
            self.refused(BadBlends, thing, 8, 4, thing)

    def test_order_and_first_ones(self):
        """The tuple's own order tells which blend is the first one; each error stands for all blends."""
        weight, other_weight = DELTA, FOUR
        sign, other_sign = blend((total(4, 5, 1), 1)), blend((total(4, -7, -3), 1))
        level, other_level = sums(4, 16, 3)
        pole, other_pole = blend((product((1, 40), (2, -32)), 1)), blend((product((1, -32), (2, 40)), 1))
        good = sums(4, 1, 2, 4)
        for at in range(4):
            def put(*some):
                return good[:at] + some + good[at:]
            for one, other, error in ((weight, other_weight, OtherWeight), (sign, other_sign, OtherSign),
                                      (level, other_level, OtherLevel), (pole, other_pole, HasPole)):
                self.refused(error, one, 8, 4, put(one))
                self.refused(error, one, 8, 4, put(one, other))
                self.refused(error, other, 8, 4, put(other, one))
            for order in ((0, 1, 2, 3), (3, 2, 1, 0), (1, 3, 0, 2)):
                wrong = (weight, OtherWeight), (sign, OtherSign), (level, OtherLevel), (pole, HasPole)
                some = [wrong[k] for k in order]
                while some:
                    told = min(some, key=wrong.index)
                    self.refused(told[1], told[0], 8, 4, put(*[one for one, error in some]))
                    some.remove(told)

    def test_levels_of_blends(self):
        for level, weight, t in ((8, 4, 16), (8, 4, 3), (1, 4, 2), (399, 4, 400), (12, 4, 24), (400, 4, 399)):
            thing = sums(4, t)[0]
            self.refused(OtherLevel, thing, level, weight, (thing,))
        self.assertEqual(judge_base(16, 4, sums(4, 16))[0], "few")
        self.refused(OtherWeight, EISEN, 1, 2, (EISEN,))
        self.refused(OtherLevel, FOUR, 1, 2, (FOUR,))
        self.assertEqual(told_dimension(1, 2), 0)
        self.gives(("base", (0,)), judge_base, 1, 4, (blend((form(E8), 1)),))
