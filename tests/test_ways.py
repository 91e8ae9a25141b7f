"""Points 6.1 to 6.3: the ways of integers, and the rows of forms."""
import random
from fractions import Fraction
from itertools import product
from math import isqrt

from firstterms.beginnings import multiplied
from firstterms.errors import BadCount, BadForm, BadNumber, TooMany
from firstterms.forms import beside, changed_form, times_form
from firstterms.ways import all_ways, form_terms, ways
from tests.helpers import HUGE, NO_COUNTS, NO_INTEGERS, CallCase, expanded, inverse_of, spoiled
from tests.test_forms import A4, A6, A8, D4, E6, E8, FIVE, SOME, SQUARES, THREE, diagonal, told_changed, told_form, told_value

MOST = {2: 40, 4: 40, 6: 10, 8: 4}


def boxed_ways(form, most):
    """The ways of each integer up to most, by trying all tuples of unknowns in a box that no way leaves."""
    table = inverse_of(form)
    reach = [isqrt(int(2 * most * table[i][i])) for i in range(len(form))]
    found = [[] for _ in range(most + 1)]
    for x in product(*[range(-bound, bound + 1) for bound in reach]):
        value = told_value_fast(form, x)
        if value <= most:
            found[value].append(x)
    return [tuple(sorted(some)) for some in found]


def told_value_fast(form, x):
    """As told_value, with integers alone: twice the value is even."""
    return sum([a * sum([entry * b for entry, b in zip(row, x)]) for a, row in zip(x, form)]) // 2


def power_of_divisors(n, k):
    return sum([d ** k for d in range(1, n + 1) if n % d == 0])


def odd_character(n):
    return (0, 1, 0, -1)[n % 4]


class BoxTest(CallCase):
    def test_examples(self):
        self.gives(32, ways, SQUARES[1], 3)
        self.gives(((-1, 0), (-1, 1), (0, -1), (0, 1), (1, -1), (1, 0)), all_ways, THREE, 1, 9)
        self.gives((1, (1, 6, 0, 6, 6, 0, 0, 12)), form_terms, THREE, 8)
        self.gives((1, (1, 16, 112)), form_terms, SQUARES[3], 3)

    def test_two_unknowns(self):
        for form in SOME:
            if len(form) == 2 and form[0][0] < 100:
                found = boxed_ways(form, 40)
                for n in range(41):
                    self.gives(len(found[n]), ways, form, n)
                    self.gives(found[n], all_ways, form, n, len(found[n]))
                    self.gives((1, tuple([len(some) for some in found[:n + 1]])), form_terms, form, n + 1)

    def test_four_unknowns(self):
        for form, most in ((D4, 4), (A4, 4), (SQUARES[1], 5), (SOME[-3], 6), (diagonal(2, 4, 6, 10), 12)):
            self.assertEqual(len(form), 4)
            found = boxed_ways(form, most)
            for n in range(most + 1):
                self.gives(len(found[n]), ways, form, n)
                self.gives(found[n], all_ways, form, n, len(found[n]))
            self.gives((1, tuple([len(some) for some in found])), form_terms, form, most + 1)

    def test_six_and_eight_unknowns(self):
        for form, most in ((E6, 1), (A6, 1), (SQUARES[2], 2), (SQUARES[3], 1), (diagonal(2, 2, 4, 4, 8, 10), 4)):
            found = boxed_ways(form, most)
            for n in range(most + 1):
                self.gives(len(found[n]), ways, form, n)
                self.gives(found[n], all_ways, form, n, len(found[n]))

    def test_forms_by_chance(self):
        maker = random.Random(71)
        found = 0
        for m, most in ((2, 20), (4, 3)):
            for _ in range(40):
                rows = [[0] * m for _ in range(m)]
                for i in range(m):
                    rows[i][i] = 2 * maker.randint(1, 5)
                    for j in range(i):
                        rows[i][j] = rows[j][i] = maker.randint(-3, 3)
                form = tuple([tuple(row) for row in rows])
                if told_form(form) and expanded(form) > 3 ** (m - 1):
                    found += 1
                    expected = boxed_ways(form, most)
                    self.gives((1, tuple([len(some) for some in expected])), form_terms, form, most + 1)
                    for n in range(most + 1):
                        self.assertEqual(all_ways(form, n, 10 ** 6), expected[n])
        self.assertGreater(found, 40)


class ToldCountsTest(CallCase):
    """Counts that are known by other means."""

    def test_squares(self):
        two = [1] + [4 * sum([odd_character(d) for d in range(1, n + 1) if n % d == 0]) for n in range(1, 401)]
        self.gives((1, tuple(two[:41])), form_terms, SQUARES[0], 41)
        self.gives((1, tuple(two[:400])), form_terms, SQUARES[0], 400)
        self.gives(two[400], ways, SQUARES[0], 400)
        four = [1] + [8 * sum([d for d in range(1, n + 1) if n % d == 0 and d % 4]) for n in range(1, 41)]
        self.gives((1, tuple(four)), form_terms, SQUARES[1], 41)
        for n in range(41):
            self.gives(four[n], ways, SQUARES[1], n)
        six = [1] + [sum([(16 * odd_character(n // d) - 4 * odd_character(d)) * d * d
                          for d in range(1, n + 1) if n % d == 0]) for n in range(1, 11)]
        self.gives((1, tuple(six)), form_terms, SQUARES[2], 11)
        eight = [1] + [16 * sum([(-1) ** (n + d) * d ** 3 for d in range(1, n + 1) if n % d == 0]) for n in range(1, 5)]
        self.gives((1, tuple(eight)), form_terms, SQUARES[3], 5)
        self.gives(six[10], ways, SQUARES[2], 10)
        self.gives(eight[4], ways, SQUARES[3], 4)

    def test_others(self):
        for n in range(1, 5):
            self.gives(240 * power_of_divisors(n, 3), ways, E8, n)
        odd = [24 * sum([d for d in range(1, n + 1, 2) if n % d == 0]) for n in range(1, 41)]
        self.gives((1, (1,) + tuple(odd)), form_terms, D4, 41)
        three = [6 * sum([(0, 1, -1)[d % 3] for d in range(1, n + 1) if n % d == 0]) for n in range(1, 41)]
        self.gives((1, (1,) + tuple(three)), form_terms, THREE, 41)
        self.gives((1, (1, 72, 270, 720, 936, 2160, 2214, 3600, 4590, 6552, 5184)), form_terms, E6, 11)
        self.gives((1, (1, 20, 30, 60, 60, 120, 40, 180, 150, 140)), form_terms, A4, 10)
        self.gives((1, (1, 42)), form_terms, A6, 2)
        self.gives((1, (1, 72)), form_terms, A8, 2)

    def test_rows_of_forms_beside(self):
        for one, other in ((THREE, FIVE), (THREE, SQUARES[0]), (D4, THREE), (D4, A4), (E6, FIVE)):
            both = beside(one, other)
            many = MOST[len(both)] + 1
            self.gives(multiplied(form_terms(one, many), form_terms(other, many)), form_terms, both, many)

    def test_rows_of_forms_times(self):
        for form in (THREE, FIVE, D4, A6):
            row = form_terms(form, 10)[1]
            expected = tuple([row[n // 3] if n % 3 == 0 else 0 for n in range(11)])
            self.gives((1, expected), form_terms, times_form(form, 3), 11)

    def test_changed_forms_have_as_many(self):
        maker = random.Random(72)
        for form in (THREE, D4, E6, E8):
            m = len(form)
            rows = [[1 if i == j else 0 for j in range(m)] for i in range(m)]
            changed = form
            while max([entry for row in changed for entry in row]) < 40:
                i, j = maker.sample(range(m), 2)
                rows[i] = [a + maker.choice((-1, 1)) * b for a, b in zip(rows[i], rows[j])]
                table = tuple([tuple(row) for row in rows])
                if abs(expanded(table)) != 1 or max([abs(entry) for row in told_changed(form, table) for entry in row]) > 100:
                    rows = [[1 if i == j else 0 for j in range(m)] for i in range(m)]
                    continue
                changed = changed_form(form, table)
            self.gives(form_terms(form, MOST[m] + 1), form_terms, changed, MOST[m] + 1)
            some = all_ways(changed, 2, 10 ** 5)
            self.assertEqual(len(some), ways(form, 2))
            self.assertEqual({told_value(changed, x) for x in some}, {2} if some else set())
            self.assertEqual(list(some), sorted(set(some)))

    def test_great_diagonals(self):
        for form in (((100, 99), (99, 100)), ((100, -99), (-99, 100)), ((98, 99), (99, 100 + 0)), ((2, 13), (13, 86))):
            if told_form(form):
                found = boxed_ways(form, 40)
                self.gives((1, tuple([len(some) for some in found])), form_terms, form, 41)
                for n in (0, 1, 2, 3, 17, 40):
                    self.gives(found[n], all_ways, form, n, 1000)
        far = ((26, 15, 0, 0), (15, 10, 0, 0), (0, 0, 50, 35), (0, 0, 35, 26))
        self.assertTrue(told_form(far))
        self.assertEqual(Fraction(expanded(far)), (26 * 10 - 225) * (50 * 26 - 35 * 35))
        found = boxed_ways(far, 4)
        for n in range(5):
            self.gives(found[n], all_ways, far, n, 1000)


class BoundsTest(CallCase):
    def test_nought(self):
        for form in SOME:
            self.gives(1, ways, form, 0)
            self.gives(((0,) * len(form),), all_ways, form, 0, 1)
            self.gives((1, (1,)), form_terms, form, 1)
            self.refuses(TooMany, {"most": 0}, all_ways, form, 0, 0)

    def test_most(self):
        for form, n, many in ((THREE, 1, 6), (SQUARES[1], 3, 32), (D4, 40, 144), (E6, 10, 5184), (E8, 4, 17520)):
            self.gives(many, ways, form, n)
            self.assertEqual(len(all_ways(form, n, many)), many)
            self.assertEqual(len(all_ways(form, n, HUGE)), many)
            self.refuses(TooMany, {"most": many - 1}, all_ways, form, n, many - 1)
            self.refuses(TooMany, {"most": 0}, all_ways, form, n, 0)
        self.gives((), all_ways, THREE, 2, 0)
        self.gives(0, ways, THREE, 2)

    def test_wrong_values(self):
        for thing in NO_INTEGERS + (-1, -HUGE, (1, 1)):
            self.refuses_thing(BadNumber, thing, ways, THREE, thing)
            self.refuses_thing(BadNumber, thing, all_ways, THREE, thing, 9)
            self.refuses_thing(BadNumber, thing, all_ways, THREE, thing, None)
            self.refuses_thing(BadNumber, thing, all_ways, THREE, 1, thing)
        for thing in NO_COUNTS:
            self.refuses_thing(BadCount, thing, form_terms, THREE, thing)
        self.refuses_thing(BadNumber, True, all_ways, THREE, True, False)
        self.refuses_thing(BadNumber, -1, all_ways, THREE, 1, -1)

    def test_wrong_forms(self):
        for thing in NO_INTEGERS + (2, (), ((2, 2), (2, 2)), ((1, 0), (0, 2)), ((2, 0), (0, 102))) + tuple(
                [other for other in spoiled(FIVE) if not told_form(other)]):
            self.refuses_thing(BadForm, thing, ways, thing, 1)
            self.refuses_thing(BadForm, thing, ways, thing, -1)
            self.refuses_thing(BadForm, thing, all_ways, thing, 1, 0)
            self.refuses_thing(BadForm, thing, all_ways, thing, None, None)
            self.refuses_thing(BadForm, thing, form_terms, thing, 1)
            self.refuses_thing(BadForm, thing, form_terms, thing, 0)
