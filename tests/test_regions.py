"""Point 400, and the order of the bounds of a region in point 405."""

import copy
import unittest
from fractions import Fraction

from helpers import JUNK, STRANGE, Draw, bound, fraction, fractions, replaced, vector
from kinkmeasure import regions
from kinkmeasure.errors import BadRegion
from kinkmeasure.systems import check_none

# 0 <= x <= 2, 1 <= y <= 3, x + y <= 4.
CORNER = (vector(0, 1), vector(2, 3), (bound([1, 1], 4),))


class FormTest(unittest.TestCase):
    def assert_region(self, size, value, right):
        kept = repr(value)
        self.assertIs(regions.is_region(size, value), right, value)
        if right:
            self.assertIsNone(regions.check_region(size, value))
        else:
            with self.assertRaises(BadRegion):
                regions.check_region(size, value)
        self.assertEqual(repr(value), kept)

    def test_regions(self):
        draw = Draw(70)
        for size in range(1, 4):
            for many in range(3):
                bounds = tuple((draw.vector(size), draw.ratio()) for _ in range(many))
                value = (draw.vector(size), draw.vector(size), bounds)
                for other in range(1, 5):
                    self.assert_region(other, value, size == other)

    def test_lows_above_highs(self):
        self.assert_region(2, (vector(5, 0), vector(1, 0), ()), True)

    def test_no_regions(self):
        lows, highs, bounds = CORNER
        for value in STRANGE + [(), (lows, highs), (lows, highs, bounds, bounds), list(CORNER), (lows, highs, None),
                                (lows, highs, list(bounds)), (lows, highs, bounds[0]), (list(lows), highs, bounds),
                                (lows, list(highs), bounds), (lows, vector(1), bounds), (vector(1), highs, bounds),
                                (vector(1, 2, 3), highs, bounds), (lows, vector(1, 2, 3), bounds), (None, highs, bounds),
                                (lows, highs, (bound([1], 2),)), (lows, highs, (bound([1, 2, 3], 2),)),
                                (lows, highs, bounds + (None,)), (lows, ((2, 4), (3, 1)), bounds),
                                (((0, 1), (True, 1)), highs, bounds), (lows, highs, ((vector(1, 1), (2, 4)),)), 0]:
            self.assert_region(2, value, False)

    def test_one_place_replaced(self):
        for junk in JUNK:
            for value in replaced(CORNER, junk):
                if not regions.is_region(2, value):
                    self.assert_region(2, value, False)
                    continue
                for line, limit in regions.rows_of(value):
                    self.assertEqual(len(fractions(line)), 2)
                    fraction(limit)


class PointTest(unittest.TestCase):
    def test_rows(self):
        self.assertEqual(regions.rows_of(CORNER), (bound([1, 0], 2), bound([-1, 0], 0), bound([0, 1], 3),
                                                   bound([0, -1], -1), bound([1, 1], 4)))
        more = (bound([2, 0], 1), bound([0, 0], -1), bound([2, 0], 1))
        rows = regions.rows_of((vector(Fraction(-1, 2), 1), vector(2, 3), more))
        self.assertEqual(rows[1], bound([-1, 0], Fraction(1, 2)))
        self.assertEqual(rows[4:], more)
        self.assertEqual(regions.rows_of((vector(1), vector(2), ())), (bound([1], 2), bound([-1], -1)))

    def test_keeps(self):
        self.assertIs(regions.keeps(bound([1, 2], 5), vector(1, 2)), True)
        self.assertIs(regions.keeps(bound([1, 2], 5), vector(1, Fraction(201, 100))), False)
        self.assertIs(regions.keeps(bound([1, 2], 5), vector(-9, 0)), True)
        self.assertIs(regions.keeps(bound([0, 0], -1), vector(0, 0)), False)
        self.assertIs(regions.keeps(bound([0, 0], 0), vector(7, 7)), True)
        self.assertIs(regions.keeps(((), (0, 1)), ()), True)

    def test_contains(self):
        small = Fraction(1, 10**20)
        for x, y, right in [(1, 2, True), (0, 1, True), (2, 2, True), (1, 3, True), (0, 3, True), (2, 1, True),
                            (2, 3, False), (-small, 2, False), (2 + small, 1, False), (1, 1 - small, False),
                            (0, 3 + small, False), (1 + small, 3, False), (2, 2 + small, False), (9, 9, False)]:
            self.assertIs(regions.contains(CORNER, vector(x, y)), right, (x, y))

    def test_drawn_points(self):
        draw = Draw(71)
        for _ in range(200):
            size = draw.integer(1, 3)
            region = (draw.vector(size), draw.vector(size), draw.system(size, draw.integer(0, 3)))
            point = draw.point(size)
            values = fractions(point)
            right = all(low <= x <= high for low, x, high in
                        zip(fractions(region[0]), values, fractions(region[1])))
            for line, limit in region[2]:
                right = right and sum(w * x for w, x in zip(fractions(line), values)) <= fraction(limit)
            self.assertIs(regions.contains(region, point), right)

    def assert_point_of(self, region, kind):
        kept = copy.deepcopy(region)
        answer = regions.point_of(region)
        self.assertEqual(region, kept)
        self.assertEqual(len(answer), 2)
        self.assertEqual(answer[0], kind)
        if kind == "point":
            self.assertTrue(regions.contains(region, answer[1]))
        else:
            self.assertIsNone(check_none(len(region[0]), regions.rows_of(region), answer[1]))

    def test_point_of(self):
        self.assert_point_of(CORNER, "point")
        self.assert_point_of((vector(1, 2), vector(1, 2), ()), "point")
        self.assert_point_of((vector(1, 2), vector(0, 3), ()), "none")
        self.assert_point_of((vector(0, 0), vector(1, 1), (bound([-1, -1], -2),)), "point")
        self.assert_point_of((vector(0, 0), vector(1, 1), (bound([-1, -1], Fraction(-201, 100)),)), "none")
        self.assert_point_of((vector(0), vector(1), (bound([0], -1),)), "none")

    def test_point_of_drawn(self):
        draw = Draw(72)
        kinds = []
        for _ in range(200):
            size = draw.integer(1, 4)
            lows = draw.vector(size)
            highs = tuple((a + draw.integer(-1, 6) * b, b) for (a, b) in lows)
            region = (lows, highs, draw.system(size, draw.integer(0, 4)))
            kinds.append(regions.point_of(region)[0])
            self.assert_point_of(region, kinds[-1])
        self.assertGreater(kinds.count("point"), 20)
        self.assertGreater(kinds.count("none"), 20)


if __name__ == "__main__":
    unittest.main()
