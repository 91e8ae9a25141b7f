"""Products of two rows that are, or are not, a third row for all n: told by their terms up to a place."""
from firstterms.beginnings import product_tops
from firstterms.blends import blend_row, checked_blend, first_start
from firstterms.certificates import does_judge, judged
from firstterms.checks import check_level
from firstterms.errors import OtherSign, OtherWeight
from firstterms.numberpairs import common_multiple
from firstterms.places import least_tops, told_place
from firstterms.signs import any_sign_of


def place_of_three(one, other, due):
    """The place of the product of two blends and of a third one."""
    weight, level = checked_three(one, other, due)
    both = [top + other_top for top, other_top in zip(least_tops(one, level), least_tops(other, level))]
    return told_place(weight, level, [min(top, due_top) for top, due_top in zip(both, least_tops(due, level))])


def checked_three(one, other, due):
    """The third blend's weight, and the level of all three; raises an error unless it may be the others' product."""
    weight, level, sign = checked_blend(one)
    other_weight, other_level, other_sign = checked_blend(other)
    due_weight, due_level, due_sign = checked_blend(due)
    if due_weight != weight + other_weight:
        raise OtherWeight(due)
    if due_sign != any_sign_of(sign * other_sign):
        raise OtherSign(due)
    common = common_multiple([level, other_level, due_level])
    check_level(common)
    return due_weight, common


def judge_times(one, other, due):
    """The certificate that two rows make the third one for all n, or another one at one n."""
    place = place_of_three(one, other, due)
    return judged(unlike_product(one, other, due, place), place, "equal", "apart")


def times_hold(one, other, due, thing):
    """Whether any value is a right certificate that two rows make the third one, or another one."""
    place = place_of_three(one, other, due)
    return does_judge(thing, unlike_product(one, other, due, place), place, "equal", "apart")


def unlike_product(one, other, due, place):
    """All n up to the place at which the product of the first two rows and the third row have unlike terms."""
    start = first_start(one) + first_start(other)
    least = min(start, first_start(due))
    # No term of either row is needed that would lead beyond the place.
    bottom, tops = blend_row(one, first_start(one), place - start + 1)
    other_bottom, other_tops = blend_row(other, first_start(other), place - start + 1)
    made_bottom, made = bottom * other_bottom, [0] * (start - least) + product_tops(tops, other_tops)
    due_bottom, due_tops = blend_row(due, least, place - least + 1)
    pairs = list(zip(made, due_tops))
    return [least + i for i, (top, due_top) in enumerate(pairs) if top * due_bottom != due_top * made_bottom]
