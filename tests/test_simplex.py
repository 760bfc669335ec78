"""Points 303 and 304: points, greatest values, and what shows that there are none."""

import copy
import unittest
from fractions import Fraction
from unittest import mock

from helpers import STRANGE, Draw, bound, fraction, fractions, ratio, vector
from kinkmeasure import tables
from kinkmeasure.errors import BadSystem
from kinkmeasure.simplex import greatest, solve, solved, topped


def product(one, other):
    return sum((x * y for x, y in zip(fractions(one), fractions(other))), Fraction(0))


def sum_of(size, rows, shares):
    """The vector and the limit of the sum that multipliers make (point 301)."""
    items = [sum((fraction(m) * fraction(row[0][k]) for m, row in zip(shares, rows)), Fraction(0))
             for k in range(size)]
    return items, sum((fraction(m) * fraction(row[1]) for m, row in zip(shares, rows)), Fraction(0))


class Checks(unittest.TestCase):
    def assert_vector(self, value, size):
        self.assertIsInstance(value, tuple)
        self.assertEqual(len(value), size)
        for item in value:
            self.assertIsInstance(item, tuple)
            self.assertEqual(item, ratio(fraction(item)))

    def assert_shares(self, rows, shares):
        self.assert_vector(shares, len(rows))
        self.assertTrue(all(x >= 0 for x in fractions(shares)))

    def assert_point(self, size, rows, point):
        self.assert_vector(point, size)
        for line, limit in rows:
            self.assertLessEqual(product(line, point), fraction(limit))

    def assert_none(self, size, rows, shares):
        self.assert_shares(rows, shares)
        items, limit = sum_of(size, rows, shares)
        self.assertEqual(items, [0] * size)
        self.assertLess(limit, 0)

    def assert_solved(self, size, rows):
        kept = copy.deepcopy(rows)
        answer = solve(size, rows)
        self.assertEqual(rows, kept)
        self.assertEqual(len(answer), 2)
        self.assertIn(answer[0], ("point", "none"))
        if answer[0] == "point":
            self.assert_point(size, rows, answer[1])
        else:
            self.assert_none(size, rows, answer[1])
        return answer

    def assert_greatest(self, size, rows, form, hints=None):
        """The answer is right; its own parts show it. Return it."""
        kept = copy.deepcopy((rows, form))
        answer = greatest(size, rows, form) if hints is None else topped(size, rows, form, hints)
        self.assertEqual((rows, form), kept)
        if answer[0] == "none":
            self.assertEqual(len(answer), 2)
            self.assert_none(size, rows, answer[1])
            return answer
        self.assertEqual(len(answer), 3)
        self.assert_point(size, rows, answer[1])
        if answer[0] == "greatest":
            self.assert_shares(rows, answer[2])
            items, limit = sum_of(size, rows, answer[2])
            self.assertEqual(items, fractions(form))
            self.assertEqual(limit, product(form, answer[1]))
            return answer
        self.assertEqual(answer[0], "endless")
        self.assert_vector(answer[2], size)
        self.assertGreater(product(form, answer[2]), 0)
        for line, _ in rows:
            self.assertLessEqual(product(line, answer[2]), 0)
        return answer

    def assert_value(self, size, rows, form, value):
        answer = self.assert_greatest(size, rows, form)
        self.assertEqual(answer[0], "greatest")
        self.assertEqual(product(form, answer[1]), value)


class SmallTest(Checks):
    def test_examples(self):
        rows = ((((2, 1),), (3, 1)), (((-1, 1),), (0, 1)))
        self.assertEqual(greatest(1, rows, ((4, 1),)), ("greatest", ((3, 2),), ((2, 1), (0, 1))))
        self.assertEqual(solve(1, ((((1, 1),), (0, 1)), (((-1, 1),), (-1, 1))))[0], "none")

    def test_without_variables(self):
        self.assertEqual(solve(0, ()), ("point", ()))
        self.assertEqual(solve(0, (((), (0, 1)),)), ("point", ()))
        self.assertEqual(self.assert_solved(0, (((), (1, 1)), ((), (-1, 2))))[0], "none")
        self.assertEqual(greatest(0, (), ()), ("greatest", (), ()))
        self.assertEqual(greatest(0, (((), (2, 1)),), ()), ("greatest", (), vector(0)))
        self.assertEqual(self.assert_greatest(0, (((), (-2, 1)),), ())[0], "none")

    def test_without_bounds(self):
        for size in range(1, 4):
            self.assertEqual(self.assert_solved(size, ())[0], "point")
            self.assertEqual(self.assert_greatest(size, (), vector(*[0] * size))[0], "greatest")
            self.assertEqual(self.assert_greatest(size, (), vector(*[-1] * size))[0], "endless")

    def test_zero_rows(self):
        zeros = bound([0, 0], 0)
        box = (bound([1, 0], 2), bound([0, 1], 3))
        self.assert_value(2, box + (zeros, bound([0, 0], 5)), vector(1, 1), 5)
        self.assertEqual(self.assert_solved(2, box + (bound([0, 0], -1),))[0], "none")
        self.assertEqual(self.assert_greatest(2, (bound([0, 0], Fraction(-1, 7)),) + box, vector(1, 1))[0], "none")
        self.assertEqual(self.assert_greatest(2, (zeros, zeros), vector(1, 0))[0], "endless")
        self.assert_value(2, (zeros, zeros), vector(0, 0), 0)

    def test_endless(self):
        half = (bound([-1, 0], 0),)
        for form, kind in [((1, 0), "endless"), ((-1, 0), "greatest"), ((0, 1), "endless"), ((0, -1), "endless"),
                           ((-1, Fraction(1, 9)), "endless"), ((0, 0), "greatest")]:
            self.assertEqual(self.assert_greatest(2, half, vector(*form))[0], kind)
        strip = (bound([1, -1], 1), bound([-1, 1], 1))
        self.assertEqual(self.assert_greatest(2, strip, vector(1, 1))[0], "endless")
        self.assertEqual(self.assert_greatest(2, strip, vector(-1, -1))[0], "endless")
        self.assert_value(2, strip, vector(3, -3), 3)

    def test_none_comes_before_endless(self):
        rows = (bound([1, 0], 0), bound([-1, 0], -1))
        self.assertEqual(self.assert_greatest(2, rows, vector(0, 1))[0], "none")
        self.assertEqual(self.assert_greatest(2, rows, vector(0, 0))[0], "none")

    def test_one_point(self):
        rows = (bound([1, 0], 2), bound([-1, 0], -2), bound([1, 1], 5), bound([-1, -1], -5))
        self.assertEqual(solve(2, rows), ("point", vector(2, 3)))
        self.assert_value(2, rows, vector(7, -1), 11)
        third = bound([0, 1], Fraction(299, 100))
        self.assertEqual(self.assert_solved(2, rows + (third,))[0], "none")

    def test_touching_half_spaces(self):
        self.assertEqual(self.assert_solved(1, (bound([3], 1), bound([-3], -1)))[1], (ratio(Fraction(1, 3)),))
        gap = (bound([3], 1), bound([-3], -1 - Fraction(1, 10**9)))
        self.assertEqual(self.assert_solved(1, gap)[0], "none")

    def test_long_numbers(self):
        long = 10**300
        rows = (bound([Fraction(1, long)], long), bound([-long], Fraction(1, long)))
        self.assert_value(1, rows, vector(1), long * long)
        self.assert_value(1, rows, vector(-1), Fraction(1, long * long))

    def test_refusals(self):
        good = (bound([1, 0], 1),)
        for size, rows in [(1, good), (3, good), (2, list(good)), (2, None), (2, good[0]), (2, (None,)), (-1, ()),
                           (2, ((vector(1, 0), (2, 4)),)), (None, ()), (True, ()), (2, "ab"), (0, good)]:
            with self.assertRaises(BadSystem):
                solve(size, rows)
            for form in (vector(1, 0), None, ()):
                with self.assertRaises(BadSystem):
                    greatest(size, rows, form)
        for form in STRANGE + [(), vector(1), vector(1, 2, 3), list(vector(1, 2)), ((2, 4), (1, 1)), (1, 2)]:
            with self.assertRaises(BadSystem):
                greatest(2, good, form)


class DrawnTest(Checks):
    def assert_drawn(self, seed, many):
        draw = Draw(seed)
        kinds = {}
        for _ in range(many):
            size = draw.integer(0, 5)
            rows = draw.system(size, draw.integer(0, 9))
            answer = self.assert_greatest(size, rows, draw.vector(size))
            kinds[answer[0]] = kinds.get(answer[0], 0) + 1
            self.assertEqual(self.assert_solved(size, rows)[0] == "none", answer[0] == "none")
        self.assertEqual(sorted(kinds), ["endless", "greatest", "none"])
        self.assertGreater(min(kinds.values()), many // 20)

    def test_drawn(self):
        self.assert_drawn(60, 3000)

    def test_drawn_with_care_only(self):
        with mock.patch.object(tables, "PATIENCE", -1):
            self.assert_drawn(61, 1000)

    def test_drawn_with_factors_taken_out_at_once(self):
        with mock.patch.object(tables, "SHORT", 0):
            self.assert_drawn(64, 1000)

    def test_any_start(self):
        # Where the search begins does not matter for what it finds.
        draw = Draw(65)
        for _ in range(800):
            size = draw.integer(0, 5)
            rows = draw.system(size, draw.integer(1, 9))
            form = draw.vector(size)
            hints = [draw.integer(0, len(rows) - 1) for _ in rows] if rows else []
            first = self.assert_greatest(size, rows, form)
            other = self.assert_greatest(size, rows, form, hints)
            self.assertEqual(first[0], other[0])
            if first[0] == "greatest":
                self.assertEqual(product(form, first[1]), product(form, other[1]))
            self.assertEqual(solved(size, rows, hints)[0] == "none", first[0] == "none")

    def test_boxes(self):
        draw = Draw(62)
        for size in range(1, 7):
            for _ in range(10):
                rows = []
                for index in range(size):
                    line = [int(k == index) for k in range(size)]
                    rows.append(bound(line, draw.integer(-2, 5)))
                    rows.append(bound([-x for x in line], draw.integer(-2, 5)))
                rows.extend((draw.vector(size), draw.ratio()) for _ in range(draw.integer(0, 8)))
                answer = self.assert_greatest(size, tuple(rows), draw.vector(size))
                self.assertNotEqual(answer[0], "endless")

    def test_many_bounds_through_one_point(self):
        draw = Draw(63)
        for size in (2, 3, 5, 8):
            for twice in (1, 2):
                point = draw.vector(size)
                lines = [draw.vector(size, 3, 1) for _ in range(6 * size)]
                rows = tuple((line, ratio(product(line, point))) for line in lines) * twice
                self.assert_solved(size, rows)
                self.assert_greatest(size, rows, draw.vector(size))
                # The sum of some of the vectors is greatest at the point.
                form = [sum(fraction(line[k]) for line in lines[:size]) for k in range(size)]
                self.assert_value(size, rows, vector(*form), sum(x * y for x, y in zip(form, fractions(point))))

    def test_the_order_of_bounds_does_not_matter(self):
        draw = Draw(64)
        for _ in range(100):
            size = draw.integer(1, 4)
            rows, form = draw.system(size, 8), draw.vector(size)
            mixed = list(rows)
            draw.random.shuffle(mixed)
            one = self.assert_greatest(size, rows, form)
            other = self.assert_greatest(size, tuple(mixed), form)
            self.assertEqual(one[0], other[0])
            if one[0] == "greatest":
                self.assertEqual(product(form, one[1]), product(form, other[1]))


class EndTest(Checks):
    """Systems in which a simplex method may go in a circle, or very far."""

    def standard(self, form, lines, limits):
        """At most the limits, and each variable at least 0."""
        size = len(form)
        rows = [bound([-int(k == index) for k in range(size)], 0) for index in range(size)]
        rows.extend(bound(line, limit) for line, limit in zip(lines, limits))
        return size, tuple(rows), vector(*form)

    def test_circles(self):
        part = Fraction
        cases = [
            ([part(3, 4), -20, part(1, 2), -6],
             [[part(1, 4), -8, -1, 9], [part(1, 2), -12, part(-1, 2), 3], [0, 0, 1, 0]], [0, 0, 1], part(5, 4)),
            ([part(3, 4), -150, part(1, 50), -6],
             [[part(1, 4), -60, part(-1, 25), 9], [part(1, 2), -90, part(-1, 50), 3], [0, 0, 1, 0]], [0, 0, 1],
             part(1, 20)),
            ([10, -57, -9, -24],
             [[part(1, 2), part(-11, 2), part(-5, 2), 9], [part(1, 2), part(-3, 2), part(-1, 2), 1], [1, 0, 0, 0]],
             [0, 0, 1], 1),
        ]
        for patience in (-1, 0, 1, 10):
            with mock.patch.object(tables, "PATIENCE", patience):
                for form, lines, limits, value in cases:
                    size, rows, aim = self.standard(form, lines, limits)
                    self.assert_value(size, rows, aim, value)
                size, rows, aim = self.standard([2, 3, -1, -12], [[-2, -9, 1, 9], [part(1, 3), 1, part(-1, 3), -2]],
                                                [0, 0])
                self.assertEqual(self.assert_greatest(size, rows, aim)[0], "endless")

    def test_cubes_with_long_ways(self):
        for size in range(1, 8):
            lines = [[2 ** (k - j + 1) for j in range(k)] + [1] + [0] * (size - k - 1) for k in range(size)]
            limits = [5 ** (k + 1) for k in range(size)]
            form = [2 ** (size - 1 - k) for k in range(size)]
            for patience in (-1, 10):
                with mock.patch.object(tables, "PATIENCE", patience):
                    size, rows, aim = self.standard(form, lines, limits)
                    self.assert_value(size, rows, aim, 5**size)

    def test_care_is_taken_at_a_place_that_stays(self):
        chosen = []
        growing = tables.Table.growing

        def seen(table, place, careful):
            chosen.append(careful)
            return growing(table, place, careful)

        size, rows, aim = self.standard([1, 1, 1], [[1, -1, 0], [0, 1, -1], [1, 1, 1], [1, 0, -1]], [0, 0, 3, 0])
        down = rows + (bound([-1, -1, -1], -2), bound([0, -1, 1], 0))
        with mock.patch.object(tables.Table, "growing", seen):
            self.assert_value(size, rows, aim, 3)
            self.assertNotIn(True, chosen)
            with mock.patch.object(tables, "PATIENCE", 0):
                self.assert_value(size, rows, aim, 3)
                self.assertIn(True, chosen)
                chosen.clear()
                self.assertEqual(self.assert_solved(size, down)[0], "point")
                self.assertIn(True, chosen)


if __name__ == "__main__":
    unittest.main()
