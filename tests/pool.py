"""Pieces and blends for the tests, and what the document says of them, reckoned in its own words."""
from fractions import Fraction
from math import gcd, lcm

from firstterms.divisorsums import sum_terms
from firstterms.products import product_terms
from firstterms.ways import form_terms
from tests.helpers import expanded, factors_out, inverse_of, is_int, prime_divisors
from tests.test_divisorsums import told_divisor_piece
from tests.test_edges import told_index
from tests.test_forms import A4, A8, D4, E6, E8, FIVE, SQUARES, THREE, diagonal, told_form
from tests.test_orders import told_divisors, told_order
from tests.test_products import is_whole, told_level


def product(*pairs):
    return ("product", pairs)


def total(k, D, E, t=1):
    return ("sum", k, D, E, t)


def form(table):
    return ("form", table)


def blend(*pairs):
    """The blend of pairs of a piece and an integer, or a number."""
    return tuple(sorted([(piece, number if isinstance(number, tuple) else (number, 1)) for piece, number in pairs]))


# Pieces of one weight and one sign stand together.
POOL = {
    (0, 1): [product(), product((1, 24), (2, -24)), product((1, -24), (2, 24)), product((1, 8), (4, -8)),
             product((1, -8), (2, 24), (4, -16)), product((1, -16), (2, 24), (4, -8)), product((1, -8), (4, 8))],
    (1, -4): [form(SQUARES[0]), total(1, -4, 1), product((1, -4), (2, 10), (4, -4)), total(1, -4, 1, 2),
              total(1, -4, 1, 3), form(diagonal(2, 8)), form(diagonal(4, 4)), total(1, -4, 1, 100)],
    (1, -3): [form(THREE), total(1, -3, 1), total(1, -3, 1, 2), form(((4, 2), (2, 4))), product((1, 3), (3, -1)),
              total(1, -3, 1, 4), total(1, -3, 1, 3)],
    (1, -23): [product((1, 1), (23, 1)), form(((2, 1), (1, 12))), form(((4, 1), (1, 6))), total(1, -23, 1),
               form(((4, -1), (-1, 6)))],
    (2, 1): [form(SQUARES[1]), form(D4), total(2, 1, 1, 2), total(2, 1, 1, 4), total(2, 1, 1, 3), total(2, -3, -3),
             product((1, 8), (2, -4)), product((1, -8), (2, 20), (4, -8)), product((2, -4), (4, 8)),
             product((1, 2), (11, 2)), total(2, 1, 1, 11), product((1, 1), (2, 1), (7, 1), (14, 1)), total(2, -4, -4, 2)],
    (2, 5): [product((1, -1), (5, 5)), product((1, 5), (5, -1)), total(2, 5, 1), total(2, 1, 5), form(A4),
             total(2, 5, 1, 2)],
    (3, -4): [form(SQUARES[2]), total(3, -4, 1), total(3, 1, -4), product((4, 6)), total(3, -4, 1, 2)],
    (3, -3): [form(E6), total(3, -3, 1), total(3, 1, -3), product((1, 9), (3, -3)), product((1, -3), (3, 9))],
    (4, 1): [form(E8), form(SQUARES[3]), total(4, 1, 1), total(4, 1, 1, 2), total(4, 1, 1, 4), product((1, 4), (5, 4)),
             product((1, 16), (2, -8)), total(4, 5, 5), total(4, -3, -3, 2)],
    (12, 1): [product((1, 24)), total(12, 1, 1), product((2, 24)), total(12, 1, 1, 2), product((1, 48), (2, -24)),
              product((1, -24), (2, 48))],
    (-12, 1): [product((1, -24)), product((2, -24)), product((1, -48), (2, 24)), product((1, 24), (2, -48))],
}
PIECES = [piece for some in POOL.values() for piece in some]
GREAT = [  # levels of 400
    total(4, 1, 1, 400), product((400, 24)), product((400, 48)), product((200, 12)), form(diagonal(8, 100)),
    total(4, -20, -20), total(2, 1, 1, 400), product((16, 24), (25, -24)), form(diagonal(8, 8, 10, 100)),
]
TOO_GREAT = [
    total(4, 1, 1, 401), product((400, 6)), product((200, 6)), product((401, 24)), form(diagonal(16, 100)),
    form(diagonal(6, 100)), form(((100, 1), (1, 100))), product((397, 24), (2, 24)), form(diagonal(8, 8, 14, 100)),
    form(((6, -1, 2, -1), (-1, 8, 1, 1), (2, 1, 2, 0), (-1, 1, 0, 8))),  # a level of 401
]
FACTS = {}
NOT_WHOLE = [product((1, -1)), product((1, 1)), product((1, 1), (2, 1)), product((1, 8)), product((24, 1)),
             product((2, 2), (6, 3)), product((1, 2), (2, 10))]


def told_product(thing):
    """Point 3.1, word by word."""
    if not isinstance(thing, tuple) or len(thing) > 8:
        return False
    last = 0
    for pair in thing:
        if not isinstance(pair, tuple) or len(pair) != 2 or not is_int(pair[0]) or not is_int(pair[1]):
            return False
        if not last < pair[0] <= 400 or not 0 < abs(pair[1]) <= 48:
            return False
        last = pair[0]
    return True


def told_sign_of(m):
    """Point 1.4: the bare part of m, or four times it."""
    bare = 1 if m > 0 else -1
    primes = prime_divisors(abs(m))
    for p in set(primes):
        if primes.count(p) % 2:
            bare *= p
    return bare if bare % 4 == 1 else 4 * bare


def level_of_form(table):
    """Point 6.2, by trying each level; None if it is above 400."""
    inverse = inverse_of(table)
    m = len(table)
    for level in range(1, 401):
        if all((level * inverse[i][j] / (2 if i == j else 1)).denominator == 1 for i in range(m) for j in range(m)):
            return level
    return None


def told_facts(thing):
    """As reckoned_facts, which takes its time; repr tells True from 1."""
    key = repr(thing)
    if key not in FACTS:
        FACTS[key] = reckoned_facts(thing)
    return FACTS[key]


def reckoned_facts(thing):
    """The weight, the level and the sign of point 7.1, or None."""
    if told_divisor_piece(thing):
        _, k, D, E, t = thing
        return k, abs(D * E) * t, told_sign_of(D * E)
    if not isinstance(thing, tuple) or len(thing) != 2:
        return None
    if thing[0] == "product" and told_product(thing[1]) and is_whole(thing[1]):
        pairs = thing[1]
        weight = sum([r for d, r in pairs]) // 2
        sign = (-1) ** (weight % 2)
        for d, r in pairs:
            sign *= d if r % 2 else 1
        level = told_level(pairs)
        return (weight, level, told_sign_of(sign)) if level <= 400 else None
    if thing[0] == "form" and told_form(thing[1]):
        m = len(thing[1])
        level = level_of_form(thing[1])
        return None if level is None else (m // 2, level, told_sign_of((-1) ** (m // 2) * expanded(thing[1])))
    return None


def told_blend_facts(thing):
    """The weight, the level and the sign of point 7.2, or None."""
    if not isinstance(thing, tuple) or not 1 <= len(thing) <= 8:
        return None
    pieces = []
    for pair in thing:
        if not isinstance(pair, tuple) or len(pair) != 2:
            return None
        piece, number = pair
        if not isinstance(number, tuple) or len(number) != 2 or not is_int(number[0]) or not is_int(number[1]):
            return None
        if number[1] < 1 or number[0] == 0 or gcd(number[0], number[1]) > 1 or told_facts(piece) is None:
            return None
        pieces.append(piece)
    facts = [told_facts(piece) for piece in pieces]
    if sorted(pieces) != pieces or len(set(pieces)) < len(pieces):
        return None
    if len({fact[0] for fact in facts}) > 1 or len({fact[2] for fact in facts}) > 1:
        return None
    level = lcm(*[fact[1] for fact in facts])
    return (facts[0][0], level, facts[0][2]) if level <= 400 else None


def told_start(piece):
    return sum([d * r for d, r in piece[1]]) // 24 if piece[0] == "product" else 0


def told_piece_order(piece, level, c):
    return told_order(level, piece[1], c) if piece[0] == "product" else Fraction(0)


def told_terms(piece, most):
    """The terms of a piece that are not 0, up to n = most, as a dict."""
    start = told_start(piece)
    if most < start:
        return {}
    if piece[0] == "product":
        many = most - start + 1
        bottom, tops = product_terms(piece[1], many) if many <= 400 else (1, factors_out(piece[1], many))
    elif piece[0] == "sum":
        bottom, tops = sum_terms(piece, most + 1)
    else:
        bottom, tops = form_terms(piece[1], most + 1)
    return {start + i: Fraction(top, bottom) for i, top in enumerate(tops) if top}


def told_row(blended, most):
    """The terms of a blend that are not 0, up to n = most, as a dict."""
    row = {}
    for piece, (top, bottom) in blended:
        for n, term in told_terms(piece, most).items():
            row[n] = row.get(n, 0) + Fraction(top, bottom) * term
    return {n: term for n, term in row.items() if term}


def told_lowest(blended):
    return min([0] + [told_start(piece) for piece, number in blended])


def told_place_for(weight, level, least):
    """Point 7.3, word by word, for the least orders by divisors."""
    total_order = Fraction(weight * told_index(level), 12)
    for c, order in least.items():
        if c != level:
            common = gcd(c, level // c)
            total_order -= order * sum([1 for x in range(1, common + 1) if gcd(x, common) == 1])
    return total_order.numerator // total_order.denominator


def told_least(blended, level):
    return {c: min([told_piece_order(piece, level, c) for piece, number in blended]) for c in told_divisors(level)}


def told_place(blended, level=None):
    """The place of a blend, or of several together, for a level."""
    weight = told_facts(blended[0][0])[0]
    level = level or lcm(*[told_facts(piece)[1] for piece, number in blended])
    return told_place_for(weight, level, told_least(blended, level))


def within_limits(blended, place):
    """Whether the limits of part 7 let forms with so many unknowns stand in blends with this place."""
    unknowns = [len(piece[1]) for piece, number in blended if piece[0] == "form"]
    return place <= {2: 120, 4: 40, 6: 4, 8: 2}[max(unknowns, default=2)]


def some_blends(maker, each=6):
    """Blends made of the pool by chance."""
    found = []
    for some in POOL.values():
        for _ in range(each):
            chosen = maker.sample(some, min(len(some), maker.randint(1, 4)))
            pairs = [(piece, told_number(maker)) for piece in chosen]
            if told_blend_facts(blend(*pairs)) is not None:
                found.append(blend(*pairs))
    return found


def told_number(maker):
    """A number in lowest terms that is not 0."""
    fraction = Fraction(maker.choice((-1, 1)) * maker.randint(1, 9), maker.randint(1, 5))
    return (fraction.numerator, fraction.denominator)
