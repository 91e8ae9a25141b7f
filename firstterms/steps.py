"""Steps of primes: rows made of rows, and whether they are multiples of them for all n."""
from firstterms.beginnings import lowered
from firstterms.blends import blend_row, check_smooth, checked_blend
from firstterms.certificates import is_told
from firstterms.checks import check_count, check_prime, is_between, is_number
from firstterms.errors import BadWeight
from firstterms.numberpairs import quotient, raised
from firstterms.places import smooth_place
from firstterms.signs import value_at


def checked_for_steps(blend):
    """The weight, the level and the sign of a smooth blend of a weight from 1 on; raises an error for others."""
    facts = checked_blend(blend)
    check_smooth(blend)
    if facts[0] < 1:
        raise BadWeight(facts[0])
    return facts


def step_terms(blend, prime, many):
    """The beginning of so many terms of the step of a blend by a prime."""
    facts = checked_for_steps(blend)
    check_prime(prime)
    check_count(many)
    bottom, _, step = rows_of_step(blend, facts, prime, many)
    return lowered(bottom, step)


def rows_of_step(blend, facts, prime, many):
    """The bottom of so many terms of a blend and of its step, and the tops of both."""
    bottom, tops = blend_row(blend, 0, prime * (many - 1) + 1)
    return bottom, tops[:many], step_of(tops, facts, prime, many)


def step_of(tops, facts, prime, many):
    """So many terms of the step by a prime of a row with these terms, which go far enough."""
    factor = step_factor(facts, prime)
    return [tops[prime * n] + (factor * tops[n // prime] if n % prime == 0 else 0) for n in range(many)]


def step_factor(facts, prime):
    """What a term is multiplied by in the step by a prime, for the weight, the level and the sign of the blend."""
    weight, level, sign = facts
    return 0 if level % prime == 0 else value_at(sign, prime) * raised(prime, weight - 1)


def judge_step(blend, prime):
    """The certificate that the step of a blend by a prime is a multiple of it for all n, or that it is none."""
    tops, step = rows_to_judge(blend, prime)
    others = [n for n in range(len(tops)) if tops[n] != 0]
    if not others:
        return ("multiple", (0, 1))
    first = others[0]
    apart = [n for n in range(len(tops)) if are_apart(tops, step, first, n)]
    if apart:
        return ("not", min(first, apart[0]), max(first, apart[0]))
    return ("multiple", quotient(step[first], tops[first]))


def step_holds(blend, prime, thing):
    """Whether any value is a right certificate that the step of a blend is a multiple of it, or that it is none."""
    tops, step = rows_to_judge(blend, prime)
    if is_told(thing, "multiple", 2):
        return is_number(thing[1]) and does_lead(thing[1], tops, step)
    if not is_told(thing, "not", 3) or not all([is_between(n, 0, len(tops) - 1) for n in thing[1:]]):
        return False
    return thing[1] < thing[2] and are_apart(tops, step, thing[1], thing[2])


def rows_to_judge(blend, prime):
    """The terms of a blend and of its step by a prime up to the place that decides, both times one integer."""
    facts = checked_for_steps(blend)
    check_prime(prime)
    _, tops, step = rows_of_step(blend, facts, prime, smooth_place(facts[0], facts[1]) + 1)
    return tops, step


def are_apart(tops, step, m, n):
    """Whether the terms at m and n show that a step is no multiple of the row."""
    return step[m] * tops[n] != step[n] * tops[m]


def does_lead(number, tops, step):
    """Whether each term of a step is that of the row times a number."""
    return all([number[1] * after == number[0] * top for top, after in zip(tops, step)])
