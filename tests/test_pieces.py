"""Point 7.1: pieces, their weights, levels, signs and orders."""
from math import lcm

from firstterms.edges import edges_of
from firstterms.errors import BadDivisor, BadLevel, BadPiece, OtherLevel
from firstterms.pieces import is_piece, piece_level, piece_order, piece_sign, piece_weight
from tests.helpers import HUGE, NO_INTEGERS, NO_LEVELS, CallCase, pair, spoiled
from tests.pool import GREAT, NOT_WHOLE, PIECES, POOL, TOO_GREAT, form, product, told_facts, told_piece_order, total
from tests.test_forms import FIVE, THREE
from tests.test_orders import told_divisors

NO_PIECES = NO_INTEGERS + (
    0, HUGE, (), ("product",), ("sum",), ("form",), ("product", None), ("form", None), ("product", (), ()), ((), "product"),
    ["product", ()], ("Product", ()), ("products", ()), ("", ()), (None, ()), ("form", ()), ("sum", (4, 1, 1, 1)),
    ("sum", 4, 1, 1), ("sum", 4, 1, 1, 1, 1), (4, 1, 1, 1), ("form", 4, 1, 1, 1), ("product", 4, 1, 1, 1),
    ("sum", ((1, 24),)), ("form", ((1, 24),)), ("product", THREE), ("form", [[2, 1], [1, 2]]),
    ("product", [(1, 24)]), (("product", ()), (1, 1)), ("product", 1), ("sum", True, -4, 1, 1), ((1, 24),), THREE,
)


class IsPieceTest(CallCase):
    def test_ordinary(self):
        for piece in PIECES + GREAT:
            self.assertIsNotNone(told_facts(piece), piece)
            self.gives(True, is_piece, piece)

    def test_levels_above_the_bound(self):
        for thing in TOO_GREAT:
            self.assertIsNone(told_facts(thing))
            self.gives(False, is_piece, thing)

    def test_products_that_are_not_whole(self):
        for thing in NOT_WHOLE:
            self.assertIsNone(told_facts(thing))
            self.gives(False, is_piece, thing)

    def test_wrong_values(self):
        for thing in NO_PIECES + tuple(TOO_GREAT) + tuple(NOT_WHOLE):
            self.assertIsNone(told_facts(thing))
            self.gives(False, is_piece, thing)
            for function in (piece_weight, piece_level, piece_sign):
                self.refuses_thing(BadPiece, thing, function, thing)
            self.refuses_thing(BadPiece, thing, piece_order, thing, 4, 1)
            self.refuses_thing(BadPiece, thing, piece_order, thing, None, None)

    def test_near_values(self):
        kinds = {True: 0, False: 0}
        for piece in (product((1, -1), (5, 5)), total(2, 1, 1, 4), total(1, -4, 1), form(FIVE), product(),
                      product((1, -4), (2, 10), (4, -4)), total(4, 5, 5)):
            for thing in spoiled(piece):
                good = told_facts(thing) is not None
                kinds[good] += 1
                self.gives(good, is_piece, thing)
                if not good:
                    self.refuses_thing(BadPiece, thing, piece_level, thing)
                    self.refuses_thing(BadPiece, thing, piece_order, thing, 0, 0)
        self.assertGreater(min(kinds.values()), 20)


class FactsTest(CallCase):
    def test_examples(self):
        five, four = product((1, -1), (5, 5)), total(2, 1, 1, 4)
        self.assertEqual(
            [piece_weight(five), piece_level(five), piece_sign(five), piece_order(five, 5, 5), piece_order(four, 8, 4),
             piece_level(form(FIVE))], [2, 5, 5, (1, 1), (0, 1), 7])

    def test_by_the_words(self):
        for piece in PIECES + GREAT:
            weight, level, sign = told_facts(piece)
            self.gives(weight, piece_weight, piece)
            self.gives(level, piece_level, piece)
            self.gives(sign, piece_sign, piece)
        for (weight, sign), some in POOL.items():
            for piece in some:
                self.assertEqual((piece_weight(piece), piece_sign(piece)), (weight, sign))

    def test_levels_at_the_bound(self):
        for piece in GREAT:
            self.gives(400, piece_level, piece)


class OrderTest(CallCase):
    def test_by_the_words(self):
        for piece in PIECES + GREAT:
            least = told_facts(piece)[1]
            for level in {least, lcm(least, 12), lcm(least, 7), 3 * least}:
                if level <= 400:
                    for c in told_divisors(level):
                        self.gives(pair(told_piece_order(piece, level, c)), piece_order, piece, level, c)

    def test_at_all_edges(self):
        for piece in PIECES:
            if piece[0] == "product":
                weight, least, sign = told_facts(piece)
                for level in (least, 2 * least):
                    edges = edges_of(level)
                    orders = [piece_order(piece, level, c) for c, many, width in edges]
                    added = sum([many * top * (24 * level // bottom)
                                 for (top, bottom), (c, many, width) in zip(orders, edges) if 24 * level % bottom == 0])
                    self.assertEqual(added, 2 * level * weight * sum([many * width for c, many, width in edges]))

    def test_other_kinds_have_nought(self):
        for piece in (total(2, 1, 1, 4), form(THREE), total(1, -4, 5)):
            level = piece_level(piece)
            for c in told_divisors(level):
                self.gives((0, 1), piece_order, piece, level, c)

    def test_errors(self):
        five = product((1, -1), (5, 5))
        for thing in NO_LEVELS:
            self.refuses_thing(BadLevel, thing, piece_order, five, thing, 1)
            self.refuses_thing(BadLevel, thing, piece_order, five, thing, None)
            self.refuses_thing(BadLevel, thing, piece_order, total(2, 1, 1, 4), thing, 1)
        for piece, level in ((five, 1), (five, 4), (five, 399), (total(2, 1, 1, 4), 2), (total(2, 1, 1, 4), 6),
                             (form(THREE), 1), (form(THREE), 400), (product((1, 3), (3, -1)), 3)):
            self.refuses_thing(OtherLevel, level, piece_order, piece, level, 1)
            self.refuses_thing(OtherLevel, level, piece_order, piece, level, None)
        for piece in (five, total(4, 5, 1), form(diagonal_ten())):
            for thing in NO_LEVELS + (3, 6, 100, 40, (5, 1)):
                self.refuses_thing(BadDivisor, thing, piece_order, piece, 20, thing)


def diagonal_ten():
    """A form of the level 20."""
    return ((2, 0), (0, 10))
