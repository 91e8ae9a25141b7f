"""Points 6.1 to 6.3: forms, their values, levels and signs, and forms made of forms."""
import random
from fractions import Fraction
from itertools import permutations

from firstterms.errors import BadForm, BadNumber, BadRow, BadTable, TooMany
from firstterms.forms import (
    beside, changed_form, determinant_of, form_level, form_sign, is_form, partner_form, squares_form, times_form,
    value_at)
from tests.helpers import HUGE, NO_INTEGERS, CallCase, expanded, inverse_of, is_int, spoiled
from tests.test_signs import is_of_the_kinds, makes_square

THREE, FIVE = ((2, 1), (1, 2)), ((2, 1), (1, 4))


def chained(m, bonds):
    """The form with 2 at [i][i] and -1 at the bonds."""
    rows = [[2 if i == j else 0 for j in range(m)] for i in range(m)]
    for i, j in bonds:
        rows[i][j] = rows[j][i] = -1
    return tuple([tuple(row) for row in rows])


D4 = chained(4, ((0, 1), (0, 2), (0, 3)))
A4 = chained(4, ((0, 1), (1, 2), (2, 3)))
E6 = chained(6, ((0, 1), (1, 2), (2, 3), (3, 4), (2, 5)))
A6 = chained(6, ((0, 1), (1, 2), (2, 3), (3, 4), (4, 5)))
E8 = chained(8, ((0, 1), (1, 2), (2, 3), (3, 4), (4, 5), (5, 6), (2, 7)))
A8 = chained(8, tuple([(i, i + 1) for i in range(7)]))
SQUARES = tuple([tuple([tuple([2 if i == j else 0 for j in range(m)]) for i in range(m)]) for m in (2, 4, 6, 8)])
SOME = SQUARES + (
    THREE, FIVE, D4, A4, E6, A6, E8, A8, ((2, 0), (0, 4)), ((2, 1), (1, 12)), ((4, 1), (1, 6)), ((4, -1), (-1, 6)),
    ((100, 99), (99, 100)), ((100, 0), (0, 100)), ((100, -100), (-100, 102 - 2)), ((2, 0), (0, 100)), ((6, 2), (2, 10)),
    ((2, 1, 0, 0), (1, 4, 1, 0), (0, 1, 6, 1), (0, 0, 1, 8)), ((2, 1, 1, 1), (1, 4, 1, 1), (1, 1, 6, 1), (1, 1, 1, 8)),
    ((2, 0, 0, 1), (0, 2, 1, 0), (0, 1, 12, 0), (1, 0, 0, 12)), ((8, 5), (5, 4)),
)
SOME = tuple([form for form in SOME if expanded(form) > 0])


def told_form(thing):
    """Point 6.1, word by word."""
    if not isinstance(thing, tuple) or len(thing) not in (2, 4, 6, 8):
        return False
    m = len(thing)
    for row in thing:
        if not isinstance(row, tuple) or len(row) != m:
            return False
        for entry in row:
            if not is_int(entry) or abs(entry) > 100:
                return False
    for i in range(m):
        if thing[i][i] % 2 != 0 or [j for j in range(m) if thing[i][j] != thing[j][i]]:
            return False
    return all(expanded([row[:s] for row in thing[:s]]) > 0 for s in range(1, m + 1))


def diagonal(*entries):
    return tuple([tuple([entry if i == j else 0 for j in range(len(entries))]) for i, entry in enumerate(entries)])


def told_value(form, x):
    total = Fraction(0)
    for i, row in enumerate(form):
        for j, entry in enumerate(row):
            total += Fraction(x[i] * entry * x[j], 2)
    return int(total)


def told_level(form):
    """The least level, by trying each integer from 1 on."""
    m = len(form)
    table = inverse_of(form)
    level = 1
    while True:
        entries = [level * table[i][j] / (2 if i == j else 1) for i in range(m) for j in range(m)]
        if all(entry.denominator == 1 for entry in entries):
            return level
        level += 1


def told_partner(form):
    level = told_level(form)
    return tuple([tuple([int(level * entry) for entry in row]) for row in inverse_of(form)])


def told_changed(form, table):
    """The form changed by a table, from the values at single unknowns and at pairs of them."""
    m = len(form)

    def at(x):
        return told_value(form, [sum([table[i][j] * x[j] for j in range(m)]) for i in range(m)])

    ones = [[1 if i == j else 0 for j in range(m)] for i in range(m)]
    rows = []
    for i in range(m):
        rows.append(tuple([2 * at(ones[i]) if i == j else
                           at([a + b for a, b in zip(ones[i], ones[j])]) - at(ones[i]) - at(ones[j]) for j in range(m)]))
    return tuple(rows)


class IsFormTest(CallCase):
    def test_examples(self):
        self.gives(False, is_form, ((2, 2), (2, 2)))
        self.gives(False, is_form, ((1, 0), (0, 2)))

    def test_ordinary(self):
        self.assertGreater(len(SOME), 20)
        for form in SOME:
            self.assertTrue(told_form(form))
            self.gives(True, is_form, form)

    def test_numbers_of_rows(self):
        for m in range(0, 12):
            thing = tuple([tuple([2 if i == j else 0 for j in range(m)]) for i in range(m)])
            self.gives(m in (2, 4, 6, 8), is_form, thing)

    def test_great_integers(self):
        for entry in (99, 100, 101, 102, HUGE + 1):
            self.gives(entry == 100, is_form, ((2, 0), (0, entry)))
            self.gives(entry == 100, is_form, ((entry, 0), (0, 2)))
        for entry in (-101, -100, -99, 99, 100, 101):
            self.gives(abs(entry) == 99, is_form, ((100, entry), (entry, 100)))
        self.gives(True, is_form, ((100, 100 - 1, 0, 0), (99, 100, 0, 0), (0, 0, 100, -99), (0, 0, -99, 100)))

    def test_odd_on_the_diagonal(self):
        for i in range(4):
            rows = [list(row) for row in D4]
            rows[i][i] = 3
            self.gives(False, is_form, tuple([tuple(row) for row in rows]))

    def test_not_the_same_turned_over(self):
        for form in (D4, E8):
            for i in range(len(form)):
                for j in range(len(form)):
                    if i != j:
                        rows = [list(row) for row in form]
                        rows[i][j] += 1
                        self.gives(False, is_form, tuple([tuple(row) for row in rows]))

    def test_determinants_at_each_size(self):
        for m in (2, 4, 6, 8):
            for s in range(m):
                for last in (0, -2, -4):
                    rows = [[2 if i == j else 0 for j in range(m)] for i in range(m)]
                    rows[s][s] = last
                    self.gives(False, is_form, tuple([tuple(row) for row in rows]))
                    if s:
                        rows[s][s] = 2
                        rows[0][s] = rows[s][0] = 2 - last
                        self.gives(False, is_form, tuple([tuple(row) for row in rows]))
        self.gives(False, is_form, ((-2, 0), (0, -2)))
        self.gives(False, is_form, ((-2, -1), (-1, -2)))
        self.gives(False, is_form, ((0, 1), (1, 0)))
        self.gives(False, is_form, ((2, 3), (3, 4)))
        self.gives(False, is_form, ((2, 0, 0, 0), (0, -2, 0, 0), (0, 0, -2, 0), (0, 0, 0, 2)))

    def test_tables_by_chance(self):
        maker = random.Random(61)
        kinds = {True: 0, False: 0}
        for m in (2, 4, 6):
            for spread in (1, 2, 4):
                for _ in range(60):
                    rows = [[0] * m for _ in range(m)]
                    for i in range(m):
                        rows[i][i] = 2 * maker.randint(0, 2 * spread)
                        for j in range(i):
                            rows[i][j] = rows[j][i] = maker.randint(-spread, spread)
                    thing = tuple([tuple(row) for row in rows])
                    kinds[told_form(thing)] += 1
                    self.gives(told_form(thing), is_form, thing)
        self.assertGreater(min(kinds.values()), 30)

    def test_wrong_values(self):
        for thing in NO_INTEGERS + (0, 2, (), ((),), ((2,),), ((2, 0), (0,)), ((2, 0), 0), ((), ()), ("ab", "cd")):
            self.refuse_everywhere(thing)
        for form in (THREE, FIVE, D4):
            for thing in spoiled(form):
                if not told_form(thing):
                    self.gives(False, is_form, thing)
                    self.refuse_everywhere(thing)
                else:
                    self.gives(True, is_form, thing)

    def refuse_everywhere(self, thing):
        self.gives(False, is_form, thing)
        for function in (determinant_of, form_level, form_sign, partner_form):
            self.refuses_thing(BadForm, thing, function, thing)
        self.refuses_thing(BadForm, thing, value_at, thing, None)
        self.refuses_thing(BadForm, thing, times_form, thing, None)
        self.refuses_thing(BadForm, thing, changed_form, thing, None)
        self.refuses_thing(BadForm, thing, beside, thing, THREE)
        self.refuses_thing(BadForm, thing, beside, E8, thing)
        self.refuses_thing(BadForm, thing, beside, thing, None)


class ValueTest(CallCase):
    def test_examples(self):
        self.gives(3, value_at, THREE, (1, 1))

    def test_by_the_words(self):
        maker = random.Random(62)
        for form in SOME:
            m = len(form)
            for _ in range(20):
                x = tuple([maker.randint(-9, 9) for _ in range(m)])
                self.gives(told_value(form, x), value_at, form, x)
            self.gives(0, value_at, form, (0,) * m)
            self.gives(told_value(form, (HUGE,) + (-1,) * (m - 1)), value_at, form, (HUGE,) + (-1,) * (m - 1))
            for i in range(m):
                self.gives(form[i][i] // 2, value_at, form, (0,) * i + (-1,) + (0,) * (m - 1 - i))

    def test_wrong_rows(self):
        for thing in NO_INTEGERS + (1, (), (1,), (1, 1, 1), [1, 1], (1, True), (False, 1), (1, None), (1, (1,)), "11"):
            self.refuses_thing(BadRow, thing, value_at, THREE, thing)
        self.refuses_thing(BadRow, (1, 1), value_at, D4, (1, 1))
        for thing in spoiled((1, 2, -3, 4)):
            good = isinstance(thing, tuple) and len(thing) == 4 and all(is_int(entry) for entry in thing)
            if good:
                self.gives(told_value(D4, thing), value_at, D4, thing)
            else:
                self.refuses_thing(BadRow, thing, value_at, D4, thing)


class NumbersTest(CallCase):
    def test_examples(self):
        self.assertEqual([determinant_of(THREE), form_level(THREE), form_sign(THREE), form_level(FIVE), form_sign(FIVE),
                          form_level(squares_form(4)), form_sign(squares_form(4)), form_sign(squares_form(2))],
                         [3, 3, -3, 7, -7, 4, 1, -4])
        self.gives(((4, -1), (-1, 2)), partner_form, FIVE)
        self.gives(3, form_level, beside(THREE, THREE))

    def test_determinants_by_expanding(self):
        for form in SOME:
            self.gives(expanded(form), determinant_of, form)
        self.assertEqual([determinant_of(form) for form in (D4, A4, E6, A6, E8, A8)], [4, 5, 3, 7, 1, 9])
        for form in (THREE, D4, A4):
            total = 0
            for order in permutations(range(len(form))):
                turns = sum([a > b for k, b in enumerate(order) for a in order[:k]])
                part = (-1) ** turns
                for i, j in enumerate(order):
                    part *= form[i][j]
                total += part
            self.gives(total, determinant_of, form)

    def test_inverse_by_multiplying_out(self):
        for form in SOME:
            m, table = len(form), inverse_of(form)
            for i in range(m):
                for j in range(m):
                    self.assertEqual(sum([form[i][k] * table[k][j] for k in range(m)]), i == j)

    def test_levels_by_trying(self):
        for form in SOME:
            if expanded(form) < 3000:
                self.gives(told_level(form), form_level, form)
        self.assertEqual([form_level(form) for form in (D4, A4, E6, A6, E8, A8)], [2, 5, 3, 7, 1, 9])
        self.assertEqual([form_level(form) for form in SQUARES], [4, 4, 4, 4])
        self.gives(6, form_level, ((4, 2), (2, 4)))
        self.gives(8, form_level, ((2, 0), (0, 4)))
        self.gives(199, form_level, ((100, 99), (99, 100)))
        self.gives(200, form_level, ((100, 0), (0, 100)))

    def test_even_ones_on_the_diagonal(self):
        for form, expected in ((SQUARES[0], 4), (((2, 0), (0, 6)), 12), (((4, 0), (0, 4)), 8), (((2, 0), (0, 12)), 24)):
            self.gives(expected, form_level, form)

    def test_all_small_forms_of_two_unknowns(self):
        found = 0
        for a in (2, 4, 6):
            for c in (2, 4, 6, 10):
                for b in range(-4, 5):
                    form = ((a, b), (b, c))
                    if told_form(form):
                        found += 1
                        self.gives(told_level(form), form_level, form)
                        self.gives(told_partner(form), partner_form, form)
                        self.check_sign(form)
        self.assertGreater(found, 60)

    def check_sign(self, form):
        sign = form_sign(form)
        self.assertTrue(is_of_the_kinds(sign))
        self.assertTrue(makes_square(sign, (-1) ** (len(form) // 2) * expanded(form)))
        self.gives(sign, form_sign, form)

    def test_signs(self):
        for form in SOME:
            self.check_sign(form)
        self.assertEqual([form_sign(form) for form in SQUARES], [-4, 1, -4, 1])
        self.assertEqual([form_sign(form) for form in (D4, A4, E6, A6, E8, A8)], [1, 5, -3, -7, 1, 1])

    def test_greatest_determinants(self):
        hundred = tuple([tuple([100 if i == j else 0 for j in range(8)]) for i in range(8)])
        self.gives(100 ** 8, determinant_of, hundred)
        self.gives(1, form_sign, hundred)
        self.gives(200, form_level, hundred)
        near = tuple([tuple([100 if i == j else 1 for j in range(8)]) for i in range(8)])
        self.gives(expanded(near), determinant_of, near)
        sign = form_sign(near)
        self.assertTrue(makes_square(sign, expanded(near)))


class PartnerTest(CallCase):
    def test_by_the_inverse(self):
        for form in SOME:
            if expanded(form) < 3000:
                partner = told_partner(form)
                if max([abs(entry) for row in partner for entry in row]) <= 100:
                    self.gives(partner, partner_form, form)
                    self.assertTrue(told_form(partner))
                    self.assertEqual(form_level(form) % form_level(partner), 0)
                else:
                    self.refuses(TooMany, {"most": 100}, partner_form, form)

    def test_bounds(self):
        self.gives(((100, 0), (0, 2)), partner_form, ((2, 0), (0, 100)))
        self.gives(((100, -99), (-99, 100)), partner_form, ((100, 99), (99, 100)))
        self.gives(((100, -1), (-1, 2)), partner_form, ((2, 1), (1, 100)))
        self.gives(diagonal(100, 100, 50, 4), partner_form, diagonal(2, 2, 4, 50))
        self.gives(diagonal(52, 52, 26, 2), partner_form, diagonal(2, 2, 4, 52))
        self.refuses(TooMany, {"most": 100}, partner_form, diagonal(4, 4, 6, 34))
        self.refuses(TooMany, {"most": 100}, partner_form, ((6, 1, 0, 0), (1, 10, 0, 0), (0, 0, 2, 0), (0, 0, 0, 2)))


class MadeTest(CallCase):
    def test_beside(self):
        for one in SOME:
            for other in SOME:
                if len(one) + len(other) > 8:
                    self.refuses(TooMany, {"most": 8}, beside, one, other)
                    continue
                both = beside(one, other)
                self.gives(both, beside, one, other)
                x, y = (1, -2, 3, 4, 0, 5)[:len(one)], (2, 1, -1, 7, 5, -3)[:len(other)]
                self.assertTrue(told_form(both))
                self.assertEqual(told_value(both, x + y), told_value(one, x) + told_value(other, y))
        self.gives(((2, 1, 0, 0), (1, 2, 0, 0), (0, 0, 2, 1), (0, 0, 1, 4)), beside, THREE, FIVE)
        self.refuses(TooMany, {"most": 8}, beside, E6, D4)

    def test_times(self):
        for form in SOME:
            for t in (1, 2, 3, 12, 13, 25, 49, 50, 51, 100, HUGE):
                expected = tuple([tuple([t * entry for entry in row]) for row in form])
                if max([abs(entry) for row in expected for entry in row]) <= 100:
                    self.gives(expected, times_form, form, t)
                    self.assertTrue(is_form(expected))
                else:
                    self.refuses(TooMany, {"most": 100}, times_form, form, t)
        self.gives(((100, -50), (-50, 100)), times_form, ((4, -2), (-2, 4)), 25)
        for thing in NO_INTEGERS + (0, -1, -HUGE, (1, 1)):
            self.refuses_thing(BadNumber, thing, times_form, THREE, thing)

    def test_squares(self):
        for m, form in zip((2, 4, 6, 8), SQUARES):
            self.gives(form, squares_form, m)
        for thing in NO_INTEGERS + (0, 1, 3, 5, 7, 9, 10, -2, HUGE, (2, 2)):
            self.refuses_thing(BadNumber, thing, squares_form, thing)

    def test_changed(self):
        self.gives(((8, 5), (5, 4)), changed_form, FIVE, ((1, 0), (1, 1)))
        tables = (((1, 0), (1, 1)), ((0, 1), (1, 0)), ((1, 0), (0, -1)), ((2, 1), (1, 1)), ((3, 2), (4, 3)), ((0, -1), (1, 5)))
        for form in (THREE, FIVE, ((2, 0), (0, 4)), ((4, 1), (1, 6))):
            for table in tables:
                self.check_changed(form, table)

    def check_changed(self, form, table):
        expected = told_changed(form, table)
        if max([abs(entry) for row in expected for entry in row]) > 100:
            self.refuses(TooMany, {"most": 100}, changed_form, form, table)
            return
        self.gives(expected, changed_form, form, table)
        self.assertTrue(told_form(expected))
        self.assertEqual([form_level(expected), form_sign(expected), determinant_of(expected)],
                         [form_level(form), form_sign(form), determinant_of(form)])

    def test_changed_by_chance(self):
        maker = random.Random(63)
        for form in (D4, A4, E6, E8, SQUARES[3]):
            m = len(form)
            for _ in range(6):
                rows = [[1 if i == j else 0 for j in range(m)] for i in range(m)]
                for _ in range(m):
                    i, j = maker.sample(range(m), 2)
                    rows[i] = [a + maker.choice((-1, 1)) * b for a, b in zip(rows[i], rows[j])] if maker.random() < 2 / 3 \
                        else [-a for a in rows[i]]
                table = tuple([tuple(row) for row in rows])
                if abs(expanded(table)) == 1:
                    self.check_changed(form, table)

    def test_bounds_of_changed(self):
        self.gives(((100, 14), (14, 2)), changed_form, SQUARES[0], ((7, 1), (1, 0)))
        self.refuses(TooMany, {"most": 100}, changed_form, SQUARES[0], ((7, 2), (3, 1)))
        self.refuses(TooMany, {"most": 100}, changed_form, SQUARES[0], ((HUGE, 1), (HUGE - 1, 1)))
        self.refuses(TooMany, {"most": 100}, changed_form, SQUARES[0], ((1, -HUGE), (0, 1)))

    def test_wrong_tables(self):
        for thing in NO_INTEGERS + (
                1, (), ((1, 0), (0, 0)), ((0, 0), (0, 0)), ((1, 1), (1, 1)), ((2, 0), (0, 1)), ((1, 0), (0, -2)),
                ((1, 0),), ((1,),), ((1, 0, 0), (0, 1, 0), (0, 0, 1)), ((1, 0), (0, 1, 0)), ((1, 0), [0, 1]),
                [[1, 0], [0, 1]], [(1, 0), (0, 1)], ((True, 0), (0, 1)), ((1, False), (0, 1)), ((1, 0), (0, True)),
                ((1, None), (0, 1)), (("1", 0), (0, 1)), ((1, 0), (0, 1), ()), ("10", "01"), D4,
                ((HUGE, 1), (1, 1)), ((HUGE, 0), (0, HUGE))):
            self.refuses_thing(BadTable, thing, changed_form, THREE, thing)
        self.refuses_thing(BadTable, THREE, changed_form, THREE, THREE)
        self.gives(((2, 3), (3, 6)), changed_form, THREE, ((0, 1), (1, 1)))
        self.gives(((2, 3), (3, 6)), changed_form, THREE, ((1, 2), (0, -1)))

    def test_tables_near_good_ones(self):
        kinds = {True: 0, False: 0}
        for table in (((2, 1), (1, 1)), ((0, 1), (1, 0)), ((0, 0, 1, 0), (1, 0, 0, 0), (0, 1, 0, 0), (0, 0, 0, -1))):
            form = SQUARES[0] if len(table) == 2 else D4
            for thing in spoiled(table):
                good = isinstance(thing, tuple) and len(thing) == len(form)
                good = good and all(isinstance(row, tuple) and len(row) == len(form) for row in thing)
                good = good and all(is_int(entry) for row in thing for entry in row) and abs(expanded(thing)) == 1
                kinds[good] += 1
                if good:
                    self.check_changed(form, thing)
                else:
                    self.refuses_thing(BadTable, thing, changed_form, form, thing)
        self.assertGreater(min(kinds.values()), 20)
