"""Stepping rows: led by each prime to a multiple of themselves, so that a few terms tell all others."""
from firstterms.blends import blend_row
from firstterms.certificates import is_told
from firstterms.checks import is_between, is_from, is_integer
from firstterms.errors import BadNumber, NotStepping
from firstterms.numberpairs import lowest_terms, number_product, number_sum
from firstterms.places import smooth_place
from firstterms.steps import checked_for_steps, rows_of_step, step_factor, step_of


def judge_stepping(blend):
    """The certificate that a blend is stepping, or that it is not."""
    return told_stepping(blend, checked_for_steps(blend))


def told_stepping(blend, facts):
    """The certificate that a blend is, or is not, stepping, for its weight, its level and its sign."""
    wrong = wrong_beginning(blend)
    if wrong:
        return ("first", wrong[0])
    place = smooth_place(facts[0], facts[1])
    primes = primes_to(place)
    if primes:
        bottom, tops = blend_row(blend, 0, primes[-1] * place + 1)
        for prime in primes:
            apart = unlike_places(bottom, tops, step_of(tops, facts, prime, place + 1), prime)
            if apart:
                return ("not", prime, apart[0])
    return ("steps", place)


def stepping_holds(blend, thing):
    """Whether any value is a right certificate that a blend is stepping, or that it is not."""
    facts = checked_for_steps(blend)
    place = smooth_place(facts[0], facts[1])
    if is_told(thing, "first", 2):
        return is_integer(thing[1]) and thing[1] in wrong_beginning(blend)
    if is_told(thing, "not", 3):
        _, prime, n = thing
        if not is_integer(prime) or prime not in primes_to(place) or not is_between(n, 0, place):
            return False
        bottom, tops, step = rows_of_step(blend, facts, prime, place + 1)
        return n in unlike_places(bottom, tops, step, prime)
    if not is_told(thing, "steps", 2) or not is_integer(thing[1]):
        return False
    return thing[1] == place and told_stepping(blend, facts)[0] == "steps"


def wrong_beginning(blend):
    """Those of 0 and 1 at which the term of a blend is not the one that a stepping blend has there."""
    bottom, tops = blend_row(blend, 0, 2)
    return [n for n in range(2) if tops[n] != n * bottom]


def primes_to(most):
    """The ascending list of the prime numbers up to an integer."""
    return [p for p in range(2, most + 1) if all([p % d != 0 for d in range(2, p)])]


def unlike_places(bottom, tops, step, prime):
    """All n at which the step of a row by a prime has not the term at n times that at the prime."""
    return [n for n, top in enumerate(step) if top * bottom != tops[prime] * tops[n]]


def far_term(blend, n):
    """The term of a stepping blend at an integer from 1 on all of whose prime divisors are below 100."""
    facts = checked_for_steps(blend)
    certificate = told_stepping(blend, facts)
    if certificate[0] != "steps":
        raise NotStepping(certificate)
    powers = prime_powers(n) if is_from(n, 1) else None
    if powers is None:
        raise BadNumber(n)
    bottom, tops = blend_row(blend, 0, max([1] + [prime for prime, exponent in powers]) + 1)
    total = (1, 1)
    for prime, exponent in powers:
        first = lowest_terms(tops[prime], bottom)
        total = number_product(total, term_at_power(first, step_factor(facts, prime), exponent))
    return total


def prime_powers(n):
    """The pairs of a prime and how often it divides an integer from 1 on; None if one of the primes is above 100."""
    rest = n
    powers = []
    for prime in primes_to(100):
        exponent = 0
        while rest % prime == 0:
            rest = rest // prime
            exponent += 1
        if exponent > 0:
            powers.append((prime, exponent))
    return powers if rest == 1 else None


def term_at_power(first, factor, exponent):
    """The term of a stepping blend at a power of a prime, for its term at the prime and the factor of the step."""
    before, term = (1, 1), first
    for _ in range(exponent - 1):
        before, term = term, number_sum(number_product(first, term), number_product(before, (-factor, 1)))
    return term
