"""Pieces of blends: products, divisor pieces and forms, each with a weight, a level and a sign."""
from firstterms.certificates import is_told
from firstterms.checks import check_divisor, check_level
from firstterms.divisorsums import is_divisor_piece, sum_level, sum_row, sum_sign
from firstterms.errors import BadPiece, OtherLevel
from firstterms.forms import form_level, form_sign, is_form
from firstterms.numberpairs import lowest_terms
from firstterms.orders import order_bottom, order_top
from firstterms.products import is_product, product_level, product_sign, product_weight, start_of, terms_below
from firstterms.ways import form_row


def is_piece(thing):
    """Whether any value is a piece."""
    return piece_facts(thing) is not None


def piece_facts(thing):
    """The weight, the level and the sign of any value that is a piece; None if it is none."""
    if is_divisor_piece(thing):
        return thing[1], sum_level(thing), sum_sign(thing)
    if is_told(thing, "product", 2):
        return product_facts(thing[1])
    if is_told(thing, "form", 2):
        return form_facts(thing[1])
    return None


def product_facts(thing):
    """The weight, the level and the sign of any value that is the product of a piece; None if it is none."""
    level = product_level(thing) if is_product(thing) else None
    if level is None or level > 400:
        return None
    return product_weight(thing)[0], level, product_sign(thing)


def form_facts(thing):
    """The weight, the level and the sign of any value that is the form of a piece; None if it is none."""
    if not is_form(thing):
        return None
    level = form_level(thing)
    if level > 400:
        return None
    return len(thing) // 2, level, form_sign(thing)


def checked_piece(piece):
    """The weight, the level and the sign of a piece; raises BadPiece if a value is none."""
    facts = piece_facts(piece)
    if facts is None:
        raise BadPiece(piece)
    return facts


def piece_weight(piece):
    """The weight of a piece."""
    return checked_piece(piece)[0]


def piece_level(piece):
    """The level of a piece."""
    return checked_piece(piece)[1]


def piece_sign(piece):
    """The sign of a piece."""
    return checked_piece(piece)[2]


def piece_order(piece, level, c):
    """The order of a piece at the edges of a divisor c of a multiple of its level, a number."""
    least = checked_piece(piece)[1]
    check_level(level)
    if level % least != 0:
        raise OtherLevel(level)
    check_divisor(c, level)
    return lowest_terms(piece_order_top(piece, level, c), order_bottom(level, c))


def piece_order_top(piece, level, c):
    """The order of a piece at the edges of c, times the bottom that all orders there share."""
    return order_top(level, piece[1], c) if piece[0] == "product" else 0


def piece_start(piece):
    """An integer ahead of which all terms of a piece are 0."""
    return start_of(piece[1])[0] if piece[0] == "product" else 0


def piece_row(piece, first, many):
    """The bottom and the tops of so many terms of a piece from n = first on, not in lowest terms."""
    start = piece_start(piece)
    ahead = min(max(start - first, 0), many)
    # The terms between the start and the first one that is asked for are needed to reckon, but not in the result.
    skipped = max(first - start, 0)
    if ahead == many:
        return 1, [0] * many
    bottom, tops = row_from_start(piece, skipped + many - ahead)
    return bottom, [0] * ahead + tops[skipped:]


def row_from_start(piece, many):
    """The bottom and the tops of so many terms of a piece from its start on."""
    if piece[0] == "product":
        return 1, terms_below(piece[1], many)
    if piece[0] == "form":
        return 1, form_row(piece[1], many)
    return sum_row(piece, many)
