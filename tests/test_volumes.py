"""Point 1100: volumes of bounded sets."""

import copy
import unittest
from fractions import Fraction
from itertools import product
from math import factorial

from helpers import STRANGE, Draw, bound, fraction, ratio, vector
from kinkmeasure.errors import BadSystem
from kinkmeasure.simplex import solve
from kinkmeasure.volumes import volume
from references import volume_by

HALF = Fraction(1, 2)
SMALL = Fraction(1, 10**15)


def box_rows(*ends):
    """The bounds of a box."""
    rows = []
    for index, (low, high) in enumerate(ends):
        line = [int(place == index) for place in range(len(ends))]
        rows += [bound(line, high), bound([-x for x in line], -Fraction(low))]
    return tuple(rows)


def corner_rows(size, limit=1):
    """The bounds of the simplex of the positive points whose items make up at most the limit."""
    rows = [bound([-int(place == index) for place in range(size)], 0) for index in range(size)]
    return tuple(rows) + (bound([1] * size, limit),)


class VolumeTest(unittest.TestCase):
    def assert_volume(self, expected, size, rows):
        handed = copy.deepcopy(rows)
        found = volume(size, rows)
        self.assertEqual(found, ratio(expected))
        self.assertEqual(rows, handed)

    def test_example(self):
        self.assert_volume(1, 2, ((((-1, 1), (0, 1)), (0, 1)), (((0, 1), (-1, 1)), (0, 1)), (((1, 1), (2, 1)), (2, 1))))

    def test_boxes(self):
        self.assert_volume(3, 1, box_rows((-1, 2)))
        self.assert_volume(Fraction(1, 6), 1, box_rows((Fraction(1, 3), HALF)))
        self.assert_volume(6, 2, box_rows((0, 2), (-1, 2)))
        self.assert_volume(HALF, 3, box_rows((0, HALF), (-1, 1), (5, Fraction(11, 2))))
        self.assert_volume(24, 4, box_rows((0, 1), (0, 2), (0, 3), (0, 4)))
        self.assert_volume(10**40, 2, box_rows((0, 10**20), (0, 10**20)))
        self.assert_volume(SMALL**3, 3, box_rows((0, SMALL), (1, 1 + SMALL), (-SMALL, 0)))
        self.assert_volume(32, 5, box_rows(*[(-1, 1)] * 5))

    def test_simplices(self):
        for size in range(1, 6):
            self.assert_volume(Fraction(1, factorial(size)), size, corner_rows(size))
            self.assert_volume(Fraction(3**size, factorial(size)), size, corner_rows(size, 3))
        self.assert_volume(Fraction(1, 12), 2, (bound([-1, 0], 0), bound([0, -1], 0), bound([2, 3], 1)))
        self.assert_volume(Fraction(9, 2), 2, (bound([1, 1], 1), bound([-1, 0], 1), bound([0, -1], 1)))

    def test_many_walls(self):
        for size in range(1, 5):
            rows = tuple(bound(signs, 1) for signs in product((1, -1), repeat=size))
            self.assert_volume(Fraction(2**size, factorial(size)), size, rows)
        # A cube without its corners.
        rows = box_rows(*[(-1, 1)] * 3) + tuple(bound(signs, 2) for signs in product((1, -1), repeat=3))
        self.assert_volume(8 - 8 * Fraction(1, 6), 3, rows)
        hexagon = box_rows((-1, 1), (-1, 1)) + (bound([1, 1], 1), bound([-1, -1], 1))
        self.assert_volume(3, 2, hexagon)

    def test_bounds_that_say_the_same(self):
        rows = corner_rows(3)
        self.assert_volume(Fraction(1, 6), 3, rows + rows)
        scaled = tuple(bound([7 * Fraction(*x) for x in line], 7 * Fraction(*limit)) for line, limit in rows)
        self.assert_volume(Fraction(1, 6), 3, rows + scaled + rows)
        self.assert_volume(4, 2, box_rows((0, 2), (0, 2)) * 3 + (bound([1, 1], 4), bound([2, 0], 4), bound([0, 0], 0)))

    def test_bounds_that_touch(self):
        square = box_rows((0, 1), (0, 1))
        self.assert_volume(1, 2, square + (bound([1, 1], 2), bound([-1, -1], 0), bound([1, 0], 5), bound([0, 0], 3)))
        self.assert_volume(1 - HALF * SMALL**2, 2, square + (bound([1, 1], 2 - SMALL),))
        self.assert_volume(HALF * SMALL**2, 2, square + (bound([1, 1], SMALL),))

    def test_flat_and_empty(self):
        for size in range(1, 5):
            line = [1] + [0] * (size - 1)
            box = box_rows(*[(0, 1)] * size)
            self.assert_volume(0, size, box + (bound(line, 0),))
            self.assert_volume(0, size, box + (bound([-1] * size, -size),))
            self.assert_volume(0, size, box + (bound(line, HALF), bound([-x for x in line], -HALF)))
            self.assert_volume(0, size, box + (bound(line, -1),))
            self.assert_volume(0, size, box + (bound([-1] * size, -size - 1),))
            self.assert_volume(0, size, box + (bound([0] * size, -SMALL),))
            self.assert_volume(0, size, box_rows(*[(1, 1)] * size))
            self.assert_volume(0, size, box_rows(*[(1, 0)] * size))
        # Flat in a direction that no bound has.
        self.assert_volume(0, 2, (bound([1, 1], 1), bound([-1, -1], -1), bound([1, -1], 3), bound([-1, 1], 3)))
        self.assert_volume(0, 2, (bound([1, 0], 0), bound([0, 1], 0), bound([-1, -1], 0)))

    def test_empty_sets_are_bounded(self):
        self.assert_volume(0, 2, (bound([1, 0], 0), bound([-1, 0], -1)))
        self.assert_volume(0, 3, (bound([0, 0, 0], -1),))
        self.assert_volume(0, 2, (bound([1, 1], 0), bound([-1, 0], -1), bound([0, -1], 0)))

    def test_not_bounded(self):
        for size in range(1, 5):
            box = box_rows(*[(0, 1)] * size)
            for rows in [(), box[1:], box[:-1], (bound([0] * size, 0),), (bound([1] * size, 0),), corner_rows(size)[:-1]]:
                with self.assertRaises(BadSystem):
                    volume(size, rows)
        for rows in [(bound([1, 0], 0), bound([-1, 0], 0)), (bound([1, 1], 1), bound([-1, -1], -1)),
                     (bound([1, 1], 1), bound([-1, -1], 1), bound([1, 0], 5)), (bound([1, 0], 0), bound([0, 1], 0))]:
            with self.assertRaises(BadSystem):
                volume(2, rows)

    def test_wrong_values(self):
        for size in STRANGE + [0, -1, (1, 1)]:
            for rows in [(), box_rows((0, 1))]:
                with self.assertRaises(BadSystem):
                    volume(size, rows)
        for rows in STRANGE + [0, list(box_rows((0, 1))), box_rows((0, 1), (0, 1)), box_rows((0, 1)) + (None,),
                               ((((2, 4),), (0, 1)),), (bound([1], 0) + (1,),)]:
            with self.assertRaises(BadSystem):
                volume(1, rows)

    def test_drawn(self):
        draw = Draw(390)
        kinds = []
        for _ in range(150):
            size = draw.integer(1, 4)
            rows = draw.system(size, draw.integer(0, 4)) + box_rows(*[(-draw.integer(0, 2), draw.integer(0, 2))] * size)
            found = volume(size, rows)
            self.assertEqual(fraction(found), volume_by(size, rows))
            kinds.append(found != (0, 1))
            if found != (0, 1):
                self.assertEqual(solve(size, rows)[0], "point")
        self.assertGreater(kinds.count(True), 50)
        self.assertGreater(kinds.count(False), 10)

    def test_divided_by_hyperplanes(self):
        draw = Draw(391)
        for _ in range(60):
            size = draw.integer(1, 4)
            rows = draw.system(size, draw.integer(0, 3)) + box_rows(*[(-2, 2)] * size)
            line, limit = draw.vector(size), draw.ratio()
            other = tuple((-a, b) for a, b in line), (-limit[0], limit[1])
            parts = fraction(volume(size, rows + ((line, limit),))) + fraction(volume(size, rows + (other,)))
            if line == vector(*[0] * size):
                continue
            self.assertEqual(fraction(volume(size, rows)), parts)


if __name__ == "__main__":
    unittest.main()
