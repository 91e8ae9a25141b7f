"""Which values are integers, numbers, levels and divisors, and the errors for those that are not."""
from firstterms.errors import BadCount, BadDivisor, BadLevel, BadNumber, BadPrime


def is_integer(thing):
    """Whether any value is an integer; True and False are none."""
    return isinstance(thing, int) and not isinstance(thing, bool)


def is_from(thing, least):
    """Whether any value is an integer from least on."""
    return is_integer(thing) and thing >= least


def is_between(thing, least, most):
    """Whether any value is an integer from least to most."""
    return is_integer(thing) and least <= thing <= most


def is_tuple_of_integers(thing, many):
    """Whether any value is a tuple of so many integers."""
    return isinstance(thing, tuple) and len(thing) == many and all([is_integer(item) for item in thing])


def is_pair_of_integers(thing):
    """Whether any value is a tuple of two integers."""
    return is_tuple_of_integers(thing, 2)


def is_number(thing):
    """Whether any value is a number (top, bottom), in any terms."""
    return is_pair_of_integers(thing) and thing[1] >= 1


def check_integer(thing):
    """Raises BadNumber if a value is no integer."""
    if not is_integer(thing):
        raise BadNumber(thing)


def check_from(thing, least):
    """Raises BadNumber if a value is no integer from least on."""
    if not is_from(thing, least):
        raise BadNumber(thing)


def check_between(thing, least, most):
    """Raises BadNumber if a value is no integer from least to most."""
    if not is_between(thing, least, most):
        raise BadNumber(thing)


def check_number(thing):
    """Raises BadNumber if a value is no number."""
    if not is_number(thing):
        raise BadNumber(thing)


def check_count(many):
    """Raises BadCount if a value is no integer from 1 to 400."""
    if not is_between(many, 1, 400):
        raise BadCount(many)


def check_level(level):
    """Raises BadLevel if a value is no level."""
    if not is_between(level, 1, 400):
        raise BadLevel(level)


def is_prime(thing):
    """Whether any value is a prime number below 100."""
    return is_between(thing, 2, 99) and all([thing == p or thing % p != 0 for p in (2, 3, 5, 7)])


def check_prime(prime):
    """Raises BadPrime if a value is no prime number below 100."""
    if not is_prime(prime):
        raise BadPrime(prime)


def is_divisor(thing, level):
    """Whether any value is a divisor of a level."""
    return is_from(thing, 1) and level % thing == 0


def check_divisor(thing, level):
    """Raises BadDivisor if a value is no divisor of a level."""
    if not is_divisor(thing, level):
        raise BadDivisor(thing)
