"""Blends that are 0, or equal, for all n: told by their terms up to a place."""
from firstterms.blends import blend_row, checked_blend, checked_two, lowest_start
from firstterms.certificates import does_judge, judged
from firstterms.errors import BadLevel
from firstterms.places import least_tops, told_place


def place_of(blend):
    """The place of a blend."""
    weight, level, _ = checked_blend(blend)
    return told_place(weight, level, least_tops(blend, level))


def place_of_two(one, other):
    """The place of two blends of one weight and one sign."""
    weight, level, _ = checked_two(one, other)
    if level > 400:
        raise BadLevel(level)
    return told_place(weight, level, least_tops(one + other, level))


def judge_nought(blend):
    """The certificate that all terms of a blend are 0, or that one is not."""
    place = place_of(blend)
    return judged(not_nought(blend, place), place, "nought", "term")


def nought_holds(blend, thing):
    """Whether any value is a right certificate that all terms of a blend are 0, or that one is not."""
    place = place_of(blend)
    return does_judge(thing, not_nought(blend, place), place, "nought", "term")


def not_nought(blend, place):
    """All n up to the place at which the term of a blend is not 0."""
    first = lowest_start(blend)
    _, tops = blend_row(blend, first, place - first + 1)
    return [first + i for i, top in enumerate(tops) if top != 0]


def judge_equal(one, other):
    """The certificate that two blends have the same terms for all n, or unlike terms at one."""
    place = place_of_two(one, other)
    return judged(unlike(one, other, place), place, "equal", "apart")


def equal_holds(one, other, thing):
    """Whether any value is a right certificate that two blends have the same terms for all n, or unlike ones at one."""
    place = place_of_two(one, other)
    return does_judge(thing, unlike(one, other, place), place, "equal", "apart")


def unlike(one, other, place):
    """All n up to the place at which two blends have unlike terms."""
    first = min(lowest_start(one), lowest_start(other))
    bottom, tops = blend_row(one, first, place - first + 1)
    other_bottom, other_tops = blend_row(other, first, place - first + 1)
    pairs = list(zip(tops, other_tops))
    return [first + i for i, (top, other_top) in enumerate(pairs) if top * other_bottom != other_top * bottom]
