"""Point 3.3: told rows, which are the terms of products."""
from firstterms.errors import BadCount
from firstterms.products import product_terms
from firstterms.toldrows import cubes, five_cornered, squares, triangles, turned_squares
from tests.helpers import NO_COUNTS, CallCase

FAR = range(-401, 402)


def told_five_cornered(n):
    return sum([(-1) ** abs(m) for m in FAR if m * (3 * m - 1) == 2 * n])


def told_cubes(n):
    return sum([(-1) ** m * (2 * m + 1) for m in FAR if m >= 0 and m * (m + 1) == 2 * n])


def told_squares(n):
    return len([m for m in FAR if m * m == n])


def told_turned_squares(n):
    return (-1) ** n * told_squares(n)


def told_triangles(n):
    return len([m for m in FAR if m >= 0 and m * (m + 1) == 2 * n])


ROWS = (
    (five_cornered, told_five_cornered, ((1, 1),)), (cubes, told_cubes, ((1, 3),)),
    (squares, told_squares, ((1, -2), (2, 5), (4, -2))), (turned_squares, told_turned_squares, ((1, 2), (2, -1))),
    (triangles, told_triangles, ((1, -1), (2, 2))),
)


class ToldRowsTest(CallCase):
    def test_examples(self):
        self.gives((1, (1, -1, -1, 0, 0, 1, 0, 1)), five_cornered, 8)
        self.gives((1, (1, -3, 0, 5, 0, 0, -7)), cubes, 7)
        self.gives((1, (1, 2, 0, 0, 2)), squares, 5)
        self.gives((1, (1, -2, 0, 0, 2)), turned_squares, 5)
        self.gives((1, (1, 1, 0, 1, 0, 0, 1)), triangles, 7)

    def test_places_and_products(self):
        for row, told, product in ROWS:
            terms = tuple([told(n) for n in range(400)])
            for many in (1, 2, 3, 4, 5, 6, 7, 8, 16, 17, 50, 199, 200, 399, 400):
                self.gives((1, terms[:many]), row, many)
                self.assertEqual(row(many), product_terms(product, many))

    def test_wrong_values(self):
        for row, told, product in ROWS:
            for thing in NO_COUNTS:
                self.refuses_thing(BadCount, thing, row, thing)
