"""What the tests share: calls in both ways, wrong values, and reckoning from the words of the document."""
import copy
import inspect
import unittest
from fractions import Fraction
from math import gcd, lcm

HUGE = 10 ** 99 + 7

# Values that are no integers, but often look like one; no tuple among them is a number, a product or a beginning.
NO_INTEGERS = (
    True, False, None, "", "1", "-4", "abc ~\n", (1,), [], [1], [1, 2], {}, {1: 2}, {"n": [1, (2, {})]},
    ((1,),), [[[]]], (True, 1), ("1", 2), [(1, (1,))], (((((((((((1,),),),),),),),),),),), tuple([0] * 9), "9" * 2000,
)

NO_SIGNS = NO_INTEGERS + (
    0, -1, 2, -2, 3, 4, 6, 7, 9, -9, 16, -12, -16, 18, 20, 25, 32, -32, 36, 45, 48, -27, 400, -400, 401, -403, 404, -404,
    408, 1001, -100003, HUGE, -HUGE, (1, 1), (5,), "5",
)

NO_COUNTS = NO_INTEGERS + (0, -1, 401, -400, HUGE, -HUGE, (1, 1))

NO_LEVELS = NO_COUNTS

NO_NUMBERS = NO_INTEGERS + (
    0, 1, -7, HUGE, (), (1, 0), (1, -1), (0, 0), (1, 1, 1), [1, 2], (True, 2), (1, True), (False, True), (1, None),
    ("1", "2"), ((1, 2), (1, 2)), ((1, 2),), (1, (2,)), "1/2", (None, 1), ([1], 2), (HUGE, -HUGE),
)

NO_BEGINNINGS = NO_INTEGERS + (
    0, 1, HUGE, (), (1, 1), (1, ()), (0, (1,)), (-1, (1,)), (-HUGE, (1, 2)), (1, [1]), [1, (1,)], (True, (1,)),
    (1, (True,)), (1, (1, 2, False)), (1, (1, None)), (1, (1, "2")), (1, (1,), 1), ((1,), 1), ((1, 2), 3), ((1, (1,)),),
    (1, (0,) * 401), (1, ((1,),)), (1, ((1, 1), (2, 1))), (1, "11"), ("1", (1,)), (None, (1,)), (1, None),
    (1, {0: 1}), {1: (1,)}, ((1, (1,)), (1, (1,))), (1, 1, 1), ([1], (1,)), (2, (1, [2], 3)), (1, (1, (2,))),
)

NO_PRODUCTS = NO_INTEGERS + (
    0, 1, HUGE, (1, 1), ((1,),), ((0, 1),), ((-1, 1),), ((401, 1),), ((HUGE, 1),), ((1, 0),), ((1, 49),), ((1, -49),),
    ((1, HUGE),), ((1, 1), (1, 2)), ((1, 1), (1, 1)), ((2, 1), (1, 1)), ((1, 1), (3, 1), (2, 1)), [(1, 1)], ([1, 1],),
    ((1, 1), [2, 1]), ((1, 1, 1),), ((1, 1), (2,)), ((1, 1), 2), ((1, 1), None), ((True, 1),), ((1, True),),
    ((1, False),), ((1, "1"),), (("1", 1),), ((None, 1),), ((1, None),), (((1,), 1),), ((1, (1,)),), {1: 1},
    tuple([(d, 1) for d in range(1, 10)]), ((), ()), ((1, 1), ()), ("ab", "cd"), (((1, 1),),), ((1, 1), (2, 0)),
    tuple([(d, 0) for d in range(1, 9)]), ((1, 24), (2, -24), (2, -24)), ({1: 1},),
)


class CallCase(unittest.TestCase):
    """Checks each call by position and by name, and that no argument is changed."""

    def calls(self, function, args):
        """The same call in both ways, as calls without arguments."""
        names = list(inspect.signature(function).parameters)
        self.assertEqual(len(names), len(args))
        named = dict(zip(names, args))
        return (lambda: function(*args), lambda: function(**named))

    def gives(self, expected, function, *args):
        kept = copy.deepcopy(args)
        for call in self.calls(function, args):
            got = call()
            # repr tells True from 1, and a list from a tuple, at every depth.
            self.assertEqual(repr(got), repr(expected), (function.__name__, args))
        self.assertEqual(repr(args), repr(kept))

    def refuses(self, error, told, function, *args):
        """The call raises just this error, with these attributes, which are the very values."""
        kept = repr(args)
        for call in self.calls(function, args):
            with self.assertRaises(error, msg=(function.__name__, args)) as caught:
                call()
            self.assertIs(caught.exception.__class__, error, (function.__name__, args))
            self.assertEqual(list(vars(caught.exception)), list(told))
            for name, thing in told.items():
                self.assertEqual(repr(getattr(caught.exception, name)), repr(thing))
        self.assertEqual(repr(args), kept)

    def refuses_thing(self, error, thing, function, *args):
        self.refuses(error, {"thing": thing}, function, *args)


def is_square(n):
    """By trying."""
    return any(x * x == n for x in range(n + 1))


def has_square_divisor(m):
    return any(m % (x * x) == 0 for x in range(2, abs(m) + 1) if x * x <= abs(m))


def told_sign(thing):
    """Point 1.2, word by word, for an integer."""
    if thing == 0 or abs(thing) > 400:
        return False
    if thing == 1:
        return True
    if thing % 4 == 1:
        return not has_square_divisor(thing)
    m = thing // 4
    return thing % 4 == 0 and m % 4 in (2, 3) and not has_square_divisor(m)


SIGNS = tuple([D for D in range(-400, 401) if told_sign(D)])


def prime_divisors(n):
    """With repeats, for n from 1 on."""
    found, p = [], 2
    while n > 1:
        while n % p == 0:
            found.append(p)
            n //= p
        p += 1
    return found


def told_value(D, n):
    """Point 1.3, word by word: squares of remainders at primes, and products."""
    if n == 0:
        return 1 if D == 1 else 0
    value = -1 if n < 0 and D < 0 else 1
    for p in prime_divisors(abs(n)):
        if p == 2:
            value *= 0 if D % 2 == 0 else 1 if D % 8 == 1 else -1
        elif D % p == 0:
            value = 0
        else:
            value *= 1 if D % p in [x * x % p for x in range(p)] else -1
    return value


def pair(fraction):
    """The number of a fraction, in lowest terms."""
    fraction = Fraction(fraction)
    return (fraction.numerator, fraction.denominator)


def fractions_of(beginning):
    """The terms of a beginning."""
    return [Fraction(top, beginning[0]) for top in beginning[1]]


def beginning_of(terms):
    """The beginning of these fractions, in lowest terms."""
    bottom = lcm(*[Fraction(term).denominator for term in terms])
    return (bottom, tuple([int(term * bottom) for term in terms]))


def is_lowest(beginning):
    """Whether no integer above 1 divides the bottom and all tops."""
    common = beginning[0]
    for top in beginning[1]:
        common = gcd(common, top)
    return common == 1


def multiplied_out(one, other):
    """The product of two lists of terms, as far as both go."""
    many = min(len(one), len(other))
    terms = [0] * many
    for i in range(many):
        for j in range(many - i):
            terms[i + j] += one[i] * other[j]
    return terms


def factors_out(pairs, many, signs=True):
    """The terms of a product, factor by factor; without signs, how many choices there are."""
    turn = -1 if signs else 1
    terms = [1] + [0] * (many - 1)
    for d, r in pairs:
        for size in range(d, many, d):
            for _ in range(abs(r)):
                if r > 0:
                    terms = [term + turn * (terms[n - size] if n >= size else 0) for n, term in enumerate(terms)]
                else:
                    for n in range(size, many):
                        terms[n] += terms[n - size]
    return terms


def spoiled(thing):
    """Values near a value: with parts of other kinds, and with parts left out, repeated, exchanged or changed."""
    if isinstance(thing, tuple):
        for other in (list(thing), (thing,), thing + (None,), thing + ((),), None, dict(enumerate(thing))):
            yield other
        for i, item in enumerate(thing):
            yield thing[:i] + thing[i + 1:]
            yield thing[:i] + (item,) + thing[i:]
            if i:
                yield thing[:i - 1] + (item, thing[i - 1]) + thing[i + 1:]
            for other in spoiled(item):
                yield thing[:i] + (other,) + thing[i + 1:]
    elif isinstance(thing, int):
        for other in (True, False, None, str(thing), [thing], (thing,), {}, 0, 1, -thing, thing + 1, thing - 1, 2 * thing,
                      401, HUGE, -HUGE):
            yield other
    else:
        for other in ("", thing + " ", thing.upper(), thing[1:], [thing], (thing,), 0, None, "product", "sum", "form"):
            yield other


def is_int(thing):
    return type(thing) is int


def expanded(rows):
    """The determinant of a table, expanded along its rows."""
    found = {0: 1}
    for k, row in enumerate(rows):
        longer = {}
        for columns, part in found.items():
            for j, entry in enumerate(row):
                if not columns & (1 << j) and entry != 0:
                    turns = bin(columns >> j).count("1")
                    key = columns | (1 << j)
                    longer[key] = longer.get(key, 0) + (-1) ** turns * entry * part
        found = longer
    return found.get((1 << len(rows)) - 1, 0)


def inverse_of(rows):
    """The inverse of a table, by the determinants of its parts."""
    m = len(rows)
    size = expanded(rows)
    parts = [[[row[:j] + row[j + 1:] for k, row in enumerate(rows) if k != i] for j in range(m)] for i in range(m)]
    return [[Fraction((-1) ** (i + j) * expanded(parts[j][i]), size) for j in range(m)] for i in range(m)]
