"""Points 800 to 802 and 811: rounding, copies and how far they are from their networks."""

import copy
import unittest
from fractions import Fraction

from helpers import STRANGE, Draw, fraction, fractions, lies_in, outputs_by, ratio, sums, trail_by, vector
from kinkmeasure.copies import copy_distance, copy_of, rounded
from kinkmeasure.distance import distance, judge_distance
from kinkmeasure.errors import BadNetwork, BadRegion, BadScale

SPAN = (vector(-2), vector(3), ())
PLAIN = (1, (sums([[Fraction(1, 3)]], [Fraction(1, 7)]), ("bends", (True,)), sums([[Fraction(5, 8)]], [0])))


def rounded_by(value, n):
    """The nearest multiple of 1 / n, by looking at those around."""
    near = [Fraction(k, n) for k in range(int(value * n) - 2, int(value * n) + 3)]
    return max(near, key=lambda k: (-abs(k - value), abs(k)))


class RoundedTest(unittest.TestCase):
    def assert_rounded(self, value, n, expected):
        self.assertEqual(rounded(ratio(value), n), ratio(expected))

    def test_middle_goes_away_from_zero(self):
        for n in (1, 2, 3, 10, 1000):
            for k in range(-5, 5):
                middle = Fraction(2 * k + 1, 2 * n)
                self.assert_rounded(middle, n, Fraction(k + 1, n) if k >= 0 else Fraction(k, n))
        self.assert_rounded(Fraction(1, 2), 1, 1)
        self.assert_rounded(Fraction(-1, 2), 1, -1)
        self.assert_rounded(Fraction(3, 4), 2, 1)
        self.assert_rounded(Fraction(-3, 4), 2, -1)

    def test_beside_the_middle(self):
        small = Fraction(1, 10**30)
        self.assert_rounded(Fraction(1, 2) - small, 1, 0)
        self.assert_rounded(Fraction(-1, 2) + small, 1, 0)
        self.assert_rounded(Fraction(1, 2) + small, 1, 1)
        self.assert_rounded(Fraction(-1, 2) - small, 1, -1)
        self.assert_rounded(Fraction(3, 4) - small, 2, Fraction(1, 2))
        self.assert_rounded(Fraction(-3, 4) + small, 2, Fraction(-1, 2))

    def test_multiples_stay(self):
        for n in (1, 2, 7, 1000):
            for k in (-1000, -3, -1, 0, 1, 2, 10**20):
                self.assert_rounded(Fraction(k, n), n, Fraction(k, n))

    def test_great_counts(self):
        self.assert_rounded(Fraction(1, 3), 10**9, Fraction(333333333, 10**9))
        self.assert_rounded(Fraction(2, 3), 10**60, Fraction(-(-2 * 10**60 // 3), 10**60))
        self.assert_rounded(Fraction(-1, 10**9), 10**6, 0)
        self.assert_rounded(Fraction(10**40 + 1, 2), 1, (10**40 + 2) // 2)

    def test_drawn(self):
        draw = Draw(300)
        for _ in range(500):
            value = fraction(draw.ratio(200, 60))
            n = draw.integer(1, 30)
            self.assert_rounded(value, n, rounded_by(value, n))


class CopyTest(unittest.TestCase):
    def test_written_out(self):
        network = (2, (sums([[Fraction(1, 3), Fraction(-1, 8)], [2, Fraction(3, 4)]], [Fraction(1, 7), Fraction(-1, 16)]),
                       ("bends", (True, False)),
                       sums([[Fraction(7, 5), Fraction(-1, 100)]], [Fraction(1, 1000)])))
        # The units are 1/4 for weights, 1/8 for the first offsets and 1/32 for the last one.
        expected = (2, (sums([[Fraction(1, 4), Fraction(-1, 4)], [2, Fraction(3, 4)]], [Fraction(1, 8), Fraction(-1, 8)]),
                        ("bends", (True, False)),
                        sums([[Fraction(3, 2), 0]], [0])))
        handed = copy.deepcopy(network)
        self.assertEqual(copy_of(network, 2, 4), expected)
        self.assertEqual(network, handed)
        self.assertEqual(copy_of(network, 1, 1), (2, (sums([[0, 0], [2, 1]], [0, 0]), ("bends", (True, False)),
                                                      sums([[1, 0]], [0]))))

    def test_units_of_the_offsets(self):
        third = Fraction(1, 3)
        network = (1, (sums([[third]], [third]), ("bends", (True,)), sums([[third]], [third]), ("bends", (False,)),
                       sums([[third]], [third])))
        layers = copy_of(network, 2, 10)[1]
        self.assertEqual([layers[k][1] for k in (0, 2, 4)], [(vector(Fraction(3, 10)),)] * 3)
        self.assertEqual(layers[0][2], vector(Fraction(7, 20)))
        self.assertEqual(layers[2][2], vector(Fraction(67, 200)))
        self.assertEqual(layers[4][2], vector(Fraction(667, 2000)))
        self.assertEqual((layers[1], layers[3]), (("bends", (True,)), ("bends", (False,))))

    def test_greatest_grid_and_scale(self):
        network = (1, (sums([[Fraction(1, 3)]], [Fraction(1, 3)]),))
        self.assertEqual(copy_of(network, 1000, 1000),
                         (1, (sums([[Fraction(333, 1000)]], [Fraction(333333, 10**6)]),)))

    def test_the_copy_of_the_copy(self):
        draw = Draw(301)
        for _ in range(60):
            network = draw.plain()
            grid, scale = draw.pick([1, 2, 3, 10, 1000]), draw.pick([1, 2, 5, 16, 1000])
            found = copy_of(network, grid, scale)
            self.assertEqual(copy_of(found, grid, scale), found)

    def test_values_on_the_grid(self):
        draw = Draw(302)
        for _ in range(60):
            network = draw.plain()
            grid, scale = draw.integer(1, 12), draw.integer(1, 12)
            found = copy_of(network, grid, scale)
            point = tuple(ratio(Fraction(draw.integer(-30, 30), grid)) for _ in range(network[0]))
            for place, values in enumerate(trail_by(found, point)[1:]):
                number = place // 2 + 1
                for value in values:
                    self.assertEqual((value * grid * scale**number).denominator, 1)
            for layer, other in zip(network[1], found[1]):
                if layer[0] == "bends":
                    self.assertEqual(layer, other)
                else:
                    for row, copied in zip(layer[1], other[1]):
                        for w, x in zip(fractions(row), fractions(copied)):
                            self.assertEqual(x, rounded_by(w, scale))


class DistanceTest(unittest.TestCase):
    def test_worked(self):
        # 1/3 becomes 0 and 1/2 stays: the outputs differ by a third of the input.
        network = (1, (sums([[Fraction(1, 3)]], [Fraction(1, 2)]),))
        answer = copy_distance(network, 2, 1, SPAN)
        self.assertEqual(answer[:3], ("distance", (1, 1), vector(3)))
        self.assertEqual(copy_distance((1, (sums([[2]], [1]),)), 1, 1, SPAN)[:2], ("distance", (0, 1)))

    def test_judged(self):
        draw = Draw(303)
        for _ in range(25):
            network = draw.plain(draw.integer(1, 2), draw.integer(0, 1))
            grid, scale = draw.integer(1, 5), draw.integer(1, 5)
            region = draw.region(network[0])
            other = copy_of(network, grid, scale)
            answer = copy_distance(network, grid, scale, region)
            self.assertIs(judge_distance(network, other, region, answer), True)
            self.assertEqual(answer[:2], distance(network, other, region)[:2] if answer[0] != "empty" else answer)
            for _ in range(4):
                point = draw.point(network[0])
                if lies_in(region, point):
                    pairs = zip(fractions(outputs_by(network, point)), fractions(outputs_by(other, point)))
                    self.assertLessEqual(max(abs(x - y) for x, y in pairs), fraction(answer[1]))


class ErrorTest(unittest.TestCase):
    NOT_PLAIN = [(1, ()), (2, (("greatest", ((0, 1),)),)), (1, (("bends", (True,)),))]
    WRONG = [value for value in STRANGE if value is not None] + [0, -1, 1001, 10**30, (1, 1), None]

    def test_network_first(self):
        for value in STRANGE + self.NOT_PLAIN + [(0, ())]:
            with self.assertRaises(BadNetwork):
                copy_of(value, 0, None)
            with self.assertRaises(BadNetwork):
                copy_distance(value, 0, None, None)

    def test_then_grid_and_scale(self):
        for value in self.WRONG:
            for grid, scale in [(value, 1), (1, value), (value, value)]:
                with self.assertRaises(BadScale):
                    copy_of(PLAIN, grid, scale)
                with self.assertRaises(BadScale):
                    copy_distance(PLAIN, grid, scale, None)
        for value in (1, 1000):
            copy_of(PLAIN, value, value)

    def test_then_region(self):
        for value in STRANGE + [(vector(0, 0), vector(1, 1), ())]:
            with self.assertRaises(BadRegion):
                copy_distance(PLAIN, 1, 1, value)


if __name__ == "__main__":
    unittest.main()
