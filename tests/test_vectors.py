"""Point 105: vectors and matrices."""

import unittest
from fractions import Fraction

from helpers import JUNK, STRANGE, Draw, fraction, fractions, matrix, ratio, vector
from kinkmeasure import vectors


def sizes():
    return [(rows, columns) for rows in range(1, 5) for columns in range(0, 5)]


class KindTest(unittest.TestCase):
    def test_vectors(self):
        self.assertIs(vectors.is_vector(()), True)
        self.assertIs(vectors.is_vector((), size=0), True)
        self.assertIs(vectors.is_vector((), size=1), False)
        for size in range(1, 4):
            value = Draw(size).vector(size)
            self.assertIs(vectors.is_vector(value), True)
            for other in range(5):
                self.assertIs(vectors.is_vector(value, size=other), size == other)
        self.assertIs(vectors.is_vector(((10**700, 1), (1, 10**700))), True)

    def test_no_vectors(self):
        wrong = [[], [(1, 1)], ((1, 1), [1, 1]), ((1, 1), (2, 4)), (1, 2), ((True, 1),), ((1, True),),
                 ((1, 1), None), (((1, 1),),), ((1, 1), ()), ((1, 0),), ((1, 1), 1), "", "ab", 0, (0, 1)]
        for value in wrong + [item for item in STRANGE if item != ()]:
            self.assertIs(vectors.is_vector(value), False, value)
            for size in range(3):
                self.assertIs(vectors.is_vector(value, size=size), False)

    def test_matrices(self):
        for rows, columns in sizes():
            value = Draw(rows).matrix(rows, columns)
            self.assertIs(vectors.is_matrix(value), True)
            for many in range(6):
                self.assertIs(vectors.is_matrix(value, rows=many), many == rows)
                self.assertIs(vectors.is_matrix(value, columns=many), many == columns)
                for wide in range(6):
                    right = many == rows and wide == columns
                    self.assertIs(vectors.is_matrix(value, rows=many, columns=wide), right)

    def test_no_matrices(self):
        one = (1, 1)
        wrong = [(), [], [(one,)], ([one],), ((one,), [one]), ((one,), (one, one)), ((one, one), (one,)),
                 ((one,), ()), ((), (one,)), (one,), one, ((one,), None), ((one,), ((True, 1),)),
                 ((one,), ((2, 2),)), (((1, 0),),), (None,), 5, "", "a", ("a",), ("",), (1,)]
        for value in wrong + STRANGE:
            self.assertIs(vectors.is_matrix(value), False, value)
            self.assertIs(vectors.is_matrix(value, rows=1), False)
            self.assertIs(vectors.is_matrix(value, columns=1), False)

    def test_junk_inside(self):
        for junk in JUNK:
            right = vectors.is_vector(((1, 1), junk))
            expected = (isinstance(junk, tuple) and len(junk) == 2
                        and all(isinstance(x, int) and not isinstance(x, bool) for x in junk)
                        and junk[1] > 0 and Fraction(*junk).denominator == junk[1])
            self.assertIs(right, expected, junk)
            self.assertIs(vectors.is_matrix((((1, 1),), (junk,))), expected)


class ValueTest(unittest.TestCase):
    def test_examples(self):
        self.assertEqual(vectors.dot(((1, 2), (3, 1)), ((2, 1), (1, 3))), (2, 1))
        value = vectors.applied((((1, 1), (1, 1)), ((0, 1), (-1, 2))), ((3, 1), (4, 1)))
        self.assertEqual(value, ((7, 1), (-2, 1)))
        self.assertEqual(vectors.cleared(((1, 2), (-2, 3), (5, 1))), ((3, -4, 30), 6))

    def test_zero_and_unit(self):
        self.assertEqual(vectors.zero(0), ())
        self.assertEqual(vectors.zero(3), vector(0, 0, 0))
        self.assertEqual(vectors.unit(1, 0), vector(1))
        self.assertEqual(vectors.unit(3, 0), vector(1, 0, 0))
        self.assertEqual(vectors.unit(3, 1), vector(0, 1, 0))
        self.assertEqual(vectors.unit(3, 2), vector(0, 0, 1))
        self.assertEqual(vectors.identity(1), matrix([1]))
        self.assertEqual(vectors.identity(3), matrix([1, 0, 0], [0, 1, 0], [0, 0, 1]))

    def test_two_vectors(self):
        draw = Draw(4)
        for size in range(7):
            for _ in range(20):
                one, other, factor = draw.vector(size), draw.vector(size), draw.ratio()
                a, b, f = fractions(one), fractions(other), fraction(factor)
                pairs = list(zip(a, b))
                self.assertEqual(vectors.dot(one, other), ratio(sum(x * y for x, y in pairs)))
                self.assertEqual(vectors.added(one, other), vector(*[x + y for x, y in pairs]))
                self.assertEqual(vectors.subtracted(one, other), vector(*[x - y for x, y in pairs]))
                self.assertEqual(vectors.scaled(factor, one), vector(*[f * x for x in a]))
                self.assertEqual(vectors.opposite(one), vector(*[-x for x in a]))
                self.assertIs(vectors.is_below(one, other), all(x <= y for x, y in pairs))
                self.assertIs(vectors.is_below(one, one), True)

    def test_without_items(self):
        self.assertEqual(vectors.dot((), ()), (0, 1))
        self.assertEqual(vectors.added((), ()), ())
        self.assertEqual(vectors.subtracted((), ()), ())
        self.assertEqual(vectors.scaled((1, 2), ()), ())
        self.assertEqual(vectors.opposite(()), ())
        self.assertEqual(vectors.cleared(()), ((), 1))
        self.assertIs(vectors.is_below((), ()), True)
        self.assertEqual(vectors.applied(((), ()), ()), vector(0, 0))
        self.assertEqual(vectors.combined(vector(1, 2), ((), ())), ())

    def test_is_below(self):
        self.assertIs(vectors.is_below(vector(1, 2), vector(1, 3)), True)
        self.assertIs(vectors.is_below(vector(1, 3), vector(5, 2)), False)
        self.assertIs(vectors.is_below(vector(2, 1), vector(1, 5)), False)

    def test_matrix_and_vector(self):
        draw = Draw(5)
        for rows, columns in sizes() * 4:
            value, wide, high = draw.matrix(rows, columns), draw.vector(columns), draw.vector(rows)
            plain = [fractions(row) for row in value]
            across = [sum(x * y for x, y in zip(row, fractions(wide))) for row in plain]
            down = [sum(x * row[k] for x, row in zip(fractions(high), plain)) for k in range(columns)]
            self.assertEqual(vectors.applied(value, wide), vector(*across))
            self.assertEqual(vectors.combined(high, value), vector(*down))
            for index in range(columns):
                column = vector(*[row[index] for row in plain])
                self.assertEqual(vectors.column(value, index), column)
            if columns:
                turned = vectors.transposed(value)
                self.assertEqual(turned, tuple(zip(*value)))

    def test_products(self):
        draw = Draw(6)
        for rows in range(1, 4):
            for middle in range(1, 4):
                for columns in range(1, 4):
                    one, other = draw.matrix(rows, middle), draw.matrix(middle, columns)
                    product = vectors.multiplied(one, other)
                    self.assertIs(vectors.is_matrix(product, rows=rows, columns=columns), True)
                    point = draw.vector(columns)
                    behind = vectors.applied(one, vectors.applied(other, point))
                    self.assertEqual(vectors.applied(product, point), behind)
                    for k in range(rows):
                        for j in range(columns):
                            expected = sum(fraction(one[k][i]) * fraction(other[i][j]) for i in range(middle))
                            self.assertEqual(product[k][j], ratio(expected))

    def test_cleared(self):
        draw = Draw(7)
        for size in range(6):
            for _ in range(30):
                value = draw.vector(size, 9, 9)
                integers, below = vectors.cleared(value)
                self.assertIsInstance(integers, tuple)
                self.assertEqual([Fraction(n, below) for n in integers], fractions(value))
                smaller = [k for k in range(1, below)
                           if all((x * k).denominator == 1 for x in fractions(value))]
                self.assertEqual(smaller, [])
        self.assertEqual(vectors.cleared(vector(0, 0)), ((0, 0), 1))
        self.assertEqual(vectors.cleared(vector(4, -6)), ((4, -6), 1))
        self.assertEqual(vectors.cleared(((1, 4), (1, 6))), ((3, 2), 12))

    def test_long_numbers(self):
        draw = Draw(8)
        for _ in range(5):
            one = tuple(draw.long_ratio(200) for _ in range(4))
            other = tuple(draw.long_ratio(200) for _ in range(4))
            expected = sum(x * y for x, y in zip(fractions(one), fractions(other)))
            self.assertEqual(vectors.dot(one, other), ratio(expected))

    def test_results_are_vectors(self):
        draw = Draw(9)
        one, other = draw.vector(3), draw.vector(3)
        square = draw.matrix(3, 3)
        for value in (vectors.added(one, other), vectors.subtracted(one, other), vectors.opposite(one),
                      vectors.scaled((2, 3), one), vectors.applied(square, one), vectors.zero(3),
                      vectors.combined(one, square), vectors.column(square, 1), vectors.unit(3, 2)):
            self.assertIs(vectors.is_vector(value, size=3), True)
        for value in (vectors.multiplied(square, square), vectors.transposed(square), vectors.identity(3)):
            self.assertIs(vectors.is_matrix(value, rows=3, columns=3), True)


if __name__ == "__main__":
    unittest.main()
