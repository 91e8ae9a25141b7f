"""The orders of products at edges, and the products that have told orders."""
from math import gcd

from firstterms.certificates import is_told
from firstterms.checks import check_divisor, check_level, is_between, is_divisor, is_number
from firstterms.errors import BadOrders, OtherLevel
from firstterms.integers import divisors
from firstterms.numberpairs import are_same_numbers, common_multiple, lowest_terms
from firstterms.products import check_product, does_all_divide
from firstterms.tables import cleared


def order_at(level, product, c):
    """The order of a product at the edges of a divisor c of a level, a number."""
    check_divided(level, product)
    check_divisor(c, level)
    return told_order(level, product, c)


def orders_of(level, product):
    """The orders of a product at the edges of a level, by ascending divisors."""
    check_divided(level, product)
    return tuple([told_order(level, product, c) for c in divisors(level)])


def check_divided(level, product):
    """Raises an error unless these are a level and a product all of whose d divide it."""
    check_level(level)
    check_product(product)
    if not does_all_divide(product, level):
        raise OtherLevel(level)


def told_order(level, product, c):
    """The order of a product at the edges of c, for callers that have checked all three."""
    return lowest_terms(order_top(level, product, c), order_bottom(level, c))


def order_top(level, product, c):
    """The order of a product at the edges of c, times the bottom that all orders there share."""
    return sum([level // d * order_factor(c, d) * r for d, r in product])


def order_factor(c, d):
    """The square of the greatest common divisor of c and d."""
    return gcd(c, d) ** 2


def order_bottom(level, c):
    """What the orders of all products at the edges of c can be written with as the bottom."""
    return 24 * gcd(c, level // c) * c


def judge_poles(level, product):
    """The certificate that a product has no pole at the edges of a level, or has one."""
    orders = orders_of(level, product)
    for c, order in zip(divisors(level), orders):
        if order[0] < 0:
            return ("pole", c)
    return ("none", orders)


def poles_hold(level, product, thing):
    """Whether any value is a right certificate of the poles of a product at the edges of a level."""
    orders = orders_of(level, product)
    if is_told(thing, "none", 2):
        return all([top >= 0 for top, bottom in orders]) and are_same_numbers(thing[1], orders)
    if is_told(thing, "pole", 2):
        return is_divisor(thing[1], level) and order_top(level, product, thing[1]) < 0
    return False


def by_orders(level, orders):
    """The product that has these orders, all of its d dividing the level; None if there is none."""
    check_level(level)
    check_orders(level, orders)
    common = common_multiple([bottom for top, bottom in orders])
    ds = divisors(level)
    rows = []
    for c, (top, bottom) in zip(ds, orders):
        row = [level // d * order_factor(c, d) for d in ds]
        rows.append(row + [top * (common // bottom) * order_bottom(level, c)])
    table = cleared(rows, len(ds))
    return whole_pairs(ds, [(row[-1], row[i] * common) for i, row in enumerate(table)])


def check_orders(level, orders):
    """Raises BadOrders if a value is no tuple of numbers, one for each divisor of a level."""
    if not isinstance(orders, tuple) or len(orders) != len(divisors(level)):
        raise BadOrders(orders)
    if not all([is_number(order) for order in orders]):
        raise BadOrders(orders)


def whole_pairs(ds, fractions):
    """The product that has these fractions (top, bottom) as its r; None if it would be none."""
    pairs = []
    for d, (top, bottom) in zip(ds, fractions):
        if top % bottom != 0 or not is_between(top // bottom, -48, 48):
            return None
        if top != 0:
            pairs.append((d, top // bottom))
    return tuple(pairs) if len(pairs) <= 8 else None
