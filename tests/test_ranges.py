"""Points 402 and 403: phases, and the ranges of a network for them."""

import copy
import unittest
from fractions import Fraction

from helpers import STRANGE, Draw, bent_by, bound, fractions, outputs_by, ratio, sums, vector
from kinkmeasure import ranges
from kinkmeasure.errors import BadNetwork
from kinkmeasure.flatten import flatten
from references import ranges_by

# Two layers of bends; the second coordinate of the second one is kept as it is.
NETWORK = (2, (sums([[1, -2], [-1, 1]], [1, 0]), ("bends", (True, True)),
               sums([[1, -3], [1, 1]], [0, -1]), ("bends", (True, False)),
               sums([[2, -1], [-1, 0]], [1, 0])))
REGION = (vector(0, -1), vector(2, 1), ())


def pairs(*values):
    return tuple((ratio(low), ratio(high)) for low, high in values)


class WorkedTest(unittest.TestCase):
    def assert_ranges(self, region, phases, values, given, outputs):
        handed = copy.deepcopy((NETWORK, region, phases))
        self.assertEqual(ranges.value_ranges(NETWORK, region, phases), pairs(*values))
        self.assertEqual(ranges.unit_ranges(NETWORK, region, phases), pairs(*given))
        lows, highs = outputs
        self.assertEqual(ranges.output_ranges(NETWORK, region, phases), (vector(*lows), vector(*highs)))
        self.assertEqual((NETWORK, region, phases), handed)

    def test_open_and_true(self):
        for first in (None, True):
            for last in (None, True):
                self.assert_ranges(REGION, (first, None, last), [(-1, 5), (-3, 1), (-3, 5)],
                                   [(0, 5), (0, 1), (0, 5)], ([-4, -5], [12, 0]))

    def test_first_unit_false(self):
        self.assert_ranges(REGION, (False, None, None), [(-1, 5), (-3, 1), (-3, 0)],
                           [(0, 0), (0, 1), (0, 0)], ([1, 0], [2, 0]))

    def test_second_unit_false(self):
        self.assert_ranges(REGION, (None, False, None), [(-1, 5), (-3, 1), (0, 5)],
                           [(0, 5), (0, 0), (0, 5)], ([-3, -5], [12, 0]))

    def test_last_unit_false(self):
        self.assert_ranges(REGION, (True, None, False), [(-1, 5), (-3, 1), (-3, 5)],
                           [(0, 5), (0, 1), (0, 0)], ([-4, 0], [2, 0]))

    def test_bounds_of_the_region_play_no_part(self):
        narrow = REGION[:2] + ((bound([1, 0], -5), bound([0, 1], -1)),)
        self.assert_ranges(narrow, (None, None, None), [(-1, 5), (-3, 1), (-3, 5)],
                           [(0, 5), (0, 1), (0, 5)], ([-4, -5], [12, 0]))

    def test_lows_above_highs(self):
        turned = (REGION[1], REGION[0], ())
        self.assert_ranges(turned, (None, True, None), [(5, -1), (1, -3), (5, -3)],
                           [(5, 0), (1, 0), (5, 0)], ([12, 0], [-4, -5]))

    def test_one_point(self):
        half = Fraction(1, 2)
        self.assert_ranges((vector(half, 0), vector(half, 0), ()), (None, None, None),
                           [(3 * half, 3 * half), (-half, -half), (3 * half, 3 * half)],
                           [(3 * half, 3 * half), (0, 0), (3 * half, 3 * half)],
                           ([7 * half, -3 * half], [7 * half, -3 * half]))

    def test_no_units(self):
        network = (2, (sums([[1, -1], [0, 0]], [1, 4]),))
        self.assertEqual(ranges.value_ranges(network, REGION, ()), ())
        self.assertEqual(ranges.unit_ranges(network, REGION, ()), ())
        self.assertEqual(ranges.output_ranges(network, REGION, ()), (vector(0, 4), vector(4, 4)))


class DrawnTest(unittest.TestCase):
    def test_worked_out_again(self):
        draw = Draw(110)
        for _ in range(150):
            network = flatten(draw.network())
            region = draw.region(network[0])
            phases = draw.phases(len(bent_by(network, region[0])))
            values, given, outputs = ranges_by(network, region, phases)
            self.assertEqual(ranges.value_ranges(network, region, phases), pairs(*values))
            self.assertEqual(ranges.unit_ranges(network, region, phases), pairs(*given))
            self.assertEqual(ranges.output_ranges(network, region, phases),
                             (vector(*[low for low, _ in outputs]), vector(*[high for _, high in outputs])))

    def test_values_lie_between(self):
        draw = Draw(111)
        for _ in range(100):
            network = flatten(draw.network())
            lows = draw.vector(network[0])
            steps = [draw.integer(0, 4) for _ in lows]
            region = (lows, tuple((a + step * b, b) for step, (a, b) in zip(steps, lows)), ())
            point = tuple(ratio(Fraction(*low) + step * Fraction(draw.integer(0, 4), 4))
                          for step, low in zip(steps, lows))
            bent = bent_by(network, point)
            phases = tuple(draw.pick((None, value >= 0)) for value in bent)
            for value, low, high in zip(bent, *turned(ranges.value_ranges(network, region, phases))):
                self.assertTrue(low <= value <= high)
            for value, low, high in zip(bent, *turned(ranges.unit_ranges(network, region, phases))):
                self.assertTrue(low <= max(value, 0) <= high)
            lowest, highest = ranges.output_ranges(network, region, phases)
            for low, value, high in zip(fractions(lowest), fractions(outputs_by(network, point)), fractions(highest)):
                self.assertTrue(low <= value <= high)

    def test_no_network(self):
        for function in (ranges.value_ranges, ranges.unit_ranges, ranges.output_ranges):
            for value in STRANGE + [(1,), (0, ()), (1, (("bends", (1,)),))]:
                with self.assertRaises(BadNetwork):
                    function(value, REGION, ())
            with self.assertRaises(BadNetwork):
                function((2, ()), REGION, ())


def turned(found):
    """The lows and the highs of pairs, as fractions."""
    return fractions([low for low, _ in found]), fractions([high for _, high in found])


if __name__ == "__main__":
    unittest.main()
