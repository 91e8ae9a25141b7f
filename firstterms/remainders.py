"""Remainders of terms: divisible, or alike, for all n, told by the terms up to a place."""
from math import gcd

from firstterms.blends import blend_row, checked_blend, checked_two, has_no_pole
from firstterms.certificates import does_judge, judged
from firstterms.checks import check_between, check_level, is_between
from firstterms.divisorsums import sum_first
from firstterms.errors import BadModulus, NoRemainders
from firstterms.numberpairs import lowest_terms, number_product
from firstterms.places import smooth_place
from firstterms.stepping import primes_to


def does_keep(blend, modulus):
    """Whether a blend keeps remainders by a modulus."""
    checked_blend(blend)
    check_modulus(modulus)
    return is_keeping(blend, modulus)


def check_modulus(modulus):
    """Raises BadModulus if a value is no integer from 2 to 1,000."""
    if not is_between(modulus, 2, 1000):
        raise BadModulus(modulus)


def is_keeping(blend, modulus):
    """Whether a blend keeps remainders by a modulus, for callers that have checked both."""
    return has_no_pole(blend) and all([are_free(bottoms_of(piece, number), modulus) for piece, number in blend])


def bottoms_of(piece, number):
    """The bottoms of terms of a piece times a number that tell those of all its terms."""
    if piece[0] == "sum":
        return number[1], number_product(number, sum_first(piece))[1]
    return (number[1],)


def are_free(bottoms, modulus):
    """Whether no bottom has a common divisor with a modulus."""
    return all([gcd(bottom, modulus) == 1 for bottom in bottoms])


def check_keeping(blend, modulus):
    """Raises NoRemainders if a blend does not keep remainders by a modulus."""
    if not is_keeping(blend, modulus):
        raise NoRemainders(blend)


def remainder_at(blend, n, modulus):
    """The remainder by a modulus of the term of a blend at an integer from 0 to 300."""
    checked_blend(blend)
    check_modulus(modulus)
    check_keeping(blend, modulus)
    check_between(n, 0, 300)
    bottom, tops = blend_row(blend, n, 1)
    lowest_top, lowest_bottom = lowest_terms(tops[0], bottom)
    return [r for r in range(modulus) if (lowest_top - r * lowest_bottom) % modulus == 0][0]


def is_divisible(top, bottom, modulus):
    """Whether a modulus divides the top of a fraction in lowest terms."""
    return lowest_terms(top, bottom)[0] % modulus == 0


def judge_divisible(blend, stride, modulus):
    """The certificate that all terms at multiples of a stride are divisible by a modulus, or that one is not."""
    place, apart = not_divisible(blend, stride, modulus)
    return judged(apart, place, "divisible", "term")


def divisible_holds(blend, stride, modulus, thing):
    """Whether any value is a right certificate that the terms at multiples of a stride are divisible, or one is not."""
    place, apart = not_divisible(blend, stride, modulus)
    return does_judge(thing, apart, place, "divisible", "term")


def not_divisible(blend, stride, modulus):
    """The place that decides, and all n up to it for which the term at stride n is not divisible by a modulus."""
    weight, level, _ = checked_blend(blend)
    check_between(stride, 1, 60)
    check_modulus(modulus)
    check_keeping(blend, modulus)
    wider = level_of_stride(level, stride)
    check_level(wider)
    place = smooth_place(weight, wider)
    bottom, tops = blend_row(blend, 0, stride * place + 1)
    return place, [n for n in range(place + 1) if not is_divisible(tops[stride * n], bottom, modulus)]


def level_of_stride(level, stride):
    """A level times all primes that divide a stride, but not the level."""
    wider = level
    for prime in primes_to(stride):
        if stride % prime == 0 and level % prime != 0:
            wider = wider * prime
    return wider


def judge_alike(one, other, modulus):
    """The certificate that all terms of two blends are alike by a modulus, or that those at one n are not."""
    place, apart = not_alike(one, other, modulus)
    return judged(apart, place, "alike", "apart")


def alike_holds(one, other, modulus, thing):
    """Whether any value is a right certificate that all terms of two blends are alike, or those at one n are not."""
    place, apart = not_alike(one, other, modulus)
    return does_judge(thing, apart, place, "alike", "apart")


def not_alike(one, other, modulus):
    """The place that decides, and all n up to it at which the terms of two blends are not alike by a modulus."""
    weight, level, _ = checked_two(one, other)
    check_modulus(modulus)
    check_keeping(one, modulus)
    check_keeping(other, modulus)
    check_level(level)
    place = smooth_place(weight, level)
    bottom, tops = blend_row(one, 0, place + 1)
    other_bottom, other_tops = blend_row(other, 0, place + 1)
    tops_apart = [top * other_bottom - other_top * bottom for top, other_top in zip(tops, other_tops)]
    common = bottom * other_bottom
    return place, [n for n, top in enumerate(tops_apart) if not is_divisible(top, common, modulus)]
