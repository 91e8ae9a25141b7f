"""Places: up to where rows of one weight must agree to be equal for all n."""
from firstterms.edges import edges_of, index_of
from firstterms.integers import divisors
from firstterms.numberpairs import number_sum
from firstterms.orders import order_bottom
from firstterms.pieces import piece_order_top


def least_tops(blend, level):
    """By ascending divisors c of a level the least order of the pieces there, times the bottom that all share."""
    return [min([piece_order_top(piece, level, c) for piece, number in blend]) for c in divisors(level)]


def told_place(weight, level, tops):
    """The place for a level of rows of a weight, from the least orders, each times the bottom that all share."""
    total = (weight * index_of(level), 12)
    for top, (c, many, width) in zip(tops, edges_of(level)):
        if c < level:
            total = number_sum(total, (-many * top, order_bottom(level, c)))
    return total[0] // total[1]


def smooth_place(weight, level):
    """A place that is enough for all smooth blends of a weight whose levels divide a level."""
    return weight * index_of(level) // 12
