"""Blends: sums of multiples of pieces of one weight and one sign."""
from math import gcd

from firstterms.beginnings import lowered
from firstterms.checks import check_count, check_from, check_integer, is_number
from firstterms.divisorsums import is_plain
from firstterms.errors import BadBlend, BadNumber, HasPole, OtherSign, OtherWeight, TooMany
from firstterms.integers import divisors
from firstterms.numberpairs import common_multiple, number_product, number_sum
from firstterms.pieces import piece_facts, piece_level, piece_order_top, piece_row, piece_start


def is_blend(thing):
    """Whether any value is a blend."""
    return blend_facts(thing) is not None


def blend_facts(thing):
    """The weight, the level and the sign of any value that is a blend; None if it is none."""
    if not isinstance(thing, tuple) or not 1 <= len(thing) <= 8:
        return None
    if not all([isinstance(pair, tuple) and len(pair) == 2 and is_number_of_blend(pair[1]) for pair in thing]):
        return None
    facts = [piece_facts(piece) for piece, number in thing]
    if any([fact is None for fact in facts]) or not is_ascending([piece for piece, number in thing]):
        return None
    weight, _, sign = facts[0]
    level = common_multiple([fact[1] for fact in facts])
    if level > 400 or any([fact[0] != weight or fact[2] != sign for fact in facts]):
        return None
    return weight, level, sign


def is_number_of_blend(thing):
    """Whether any value is a number in lowest terms that is not 0."""
    return is_number(thing) and thing[0] != 0 and gcd(thing[0], thing[1]) == 1


def is_ascending(pieces):
    """Whether pieces stand in their order, none of them twice."""
    return all([pieces[i] < pieces[i + 1] for i in range(len(pieces) - 1)])


def checked_blend(blend):
    """The weight, the level and the sign of a blend; raises BadBlend if a value is none."""
    facts = blend_facts(blend)
    if facts is None:
        raise BadBlend(blend)
    return facts


def checked_two(one, other):
    """The weight, the sign, and both levels' least common multiple, which may be above 400, of two like blends."""
    weight, level, sign = checked_blend(one)
    other_weight, other_level, other_sign = checked_blend(other)
    if other_weight != weight:
        raise OtherWeight(other)
    if other_sign != sign:
        raise OtherSign(other)
    return weight, common_multiple([level, other_level]), sign


def blend_weight(blend):
    """The weight of a blend."""
    return checked_blend(blend)[0]


def blend_level(blend):
    """The level of a blend."""
    return checked_blend(blend)[1]


def blend_sign(blend):
    """The sign of a blend."""
    return checked_blend(blend)[2]


def lowest(blend):
    """The lowest place of a blend."""
    checked_blend(blend)
    return lowest_start(blend)


def lowest_start(blend):
    """The least of 0 and of the starts of the pieces, for callers that have checked the blend."""
    return min(0, first_start(blend))


def first_start(blend):
    """An integer ahead of which all terms of a blend are 0; it may be above 0."""
    return min([piece_start(piece) for piece, number in blend])


def is_smooth(blend):
    """Whether no piece of a blend has a pole."""
    checked_blend(blend)
    return has_no_pole(blend)


def has_no_pole(blend):
    """Whether no piece of a blend has a pole, for callers that have checked the blend."""
    return all([is_smooth_piece(piece) for piece, number in blend])


def check_smooth(blend):
    """Raises HasPole if a blend is not smooth, for callers that have checked the blend."""
    if not has_no_pole(blend):
        raise HasPole(blend)


def is_smooth_piece(piece):
    """Whether a piece has no pole at an edge of its level."""
    level = piece_level(piece)
    return all([piece_order_top(piece, level, c) >= 0 for c in divisors(level)])


def blend_terms(blend, first, many):
    """The beginning of so many terms of a blend from n = first on."""
    checked_blend(blend)
    check_integer(first)
    check_count(many)
    bottom, tops = blend_row(blend, first, many)
    return lowered(bottom, tops)


def blend_row(blend, first, many):
    """The bottom and the tops of so many terms of a blend from n = first on, not in lowest terms."""
    rows = [piece_row(piece, first, many) for piece, number in blend]
    bottom = common_multiple([row[0] * number[1] for row, (piece, number) in zip(rows, blend)])
    total = [0] * many
    for (below, tops), (piece, number) in zip(rows, blend):
        factor = number[0] * (bottom // (below * number[1]))
        total = [term + factor * top for term, top in zip(total, tops)]
    return bottom, total


def scaled(blend, number):
    """A blend times a number that is not 0."""
    checked_blend(blend)
    if not is_number(number) or number[0] == 0:
        raise BadNumber(number)
    return tuple([(piece, number_product(own, number)) for piece, own in blend])


def added_blends(one, other):
    """The blend of the sum of two like blends; None if nothing is left."""
    checked_two(one, other)
    pairs = summed(one + other)
    return checked_sum(pairs) if pairs else None


def summed(pairs):
    """The ascending tuple of the pairs in which each piece has the sum of its numbers, if that is not 0."""
    sums = {}
    for piece, number in pairs:
        sums[piece] = number_sum(sums.get(piece, (0, 1)), number)
    return tuple(sorted([(piece, number) for piece, number in sums.items() if number[0] != 0]))


def checked_sum(pairs):
    """The pairs, if they make a blend; raises TooMany if they are too many, or an integer of them or the level is."""
    if len(pairs) > 8:
        raise TooMany(8)
    if blend_facts(pairs) is None:
        raise TooMany(400)
    return pairs


def spread_blend(blend, t):
    """A blend that has at t n the term of a blend at n, and 0 elsewhere."""
    checked_blend(blend)
    check_from(t, 1)
    return checked_sum(summed([pair for piece, number in blend for pair in spread_pair(piece, number, t)]))


def spread_pair(piece, number, t):
    """The pairs that a pair of a blend makes when it is spread; their integers may be too great for pieces."""
    if piece[0] == "product":
        return [(("product", tuple([(t * d, r) for d, r in piece[1]])), number)]
    if piece[0] == "form":
        return [(("form", tuple([tuple([t * entry for entry in row]) for row in piece[1]])), number)]
    _, k, one, other, own = piece
    wider = ("sum", k, one, other, t * own)
    if t == 1 or not is_plain(piece):
        return [(wider, number)]
    # Each of the two has t times a sum in it that does not spread; these sums take one another away.
    return [(wider, number_product(number, (1, t))),
            (("sum", k, one, other, t), number_product(number, (-1, t)))]
