"""Point 504: patterns, pieces, and the forms of the outputs on them."""

import copy
import unittest
from fractions import Fraction

from helpers import STRANGE, Draw, bent_by, bound, fraction, fractions, keeps_by, lies_in, matrix, outputs_by, sums, vector
from kinkmeasure import pieces
from kinkmeasure.errors import BadNetwork, BadPoint
from kinkmeasure.flatten import flatten

# Two units with the values x - y and x - 1, a kept coordinate, and a third unit with the value p - q - 1.
NETWORK = (2, (sums([[1, -1], [1, 0], [0, 1]], [0, -1, 0]), ("bends", (True, True, False)),
               sums([[1, -1, 0], [0, 0, 1]], [-1, 0]), ("bends", (True, False)),
               sums([[3, 1], [0, -1]], [0, 4])))
REGION = (vector(-2, -2), vector(2, 2), (bound([1, 1], 3),))


class WorkedTest(unittest.TestCase):
    def test_pattern(self):
        for point, expected in [((2, -1), (True, True, True)), ((2, 0), (True, True, False)),
                                ((0, 0), (False, False, False)), ((1, 1), (False, False, False)),
                                ((1, 0), (True, False, False)), ((1, -1), (True, False, True)),
                                ((2, 2), (False, True, False)), ((2, 1), (True, True, False))]:
            self.assertEqual(pieces.pattern(NETWORK, vector(*point)), expected)

    def test_piece_rows(self):
        rows = pieces.piece_rows(NETWORK, REGION, (True, True, False))
        self.assertEqual(rows, (bound([1, 0], 2), bound([-1, 0], 2), bound([0, 1], 2), bound([0, -1], 2),
                                bound([1, 1], 3), bound([-1, 1], 0), bound([-1, 0], -1), bound([0, -1], 0)))
        rows = pieces.piece_rows(NETWORK, REGION, (False, True, True))
        # The third unit's value is -(x - 1) - 1 here.
        self.assertEqual(rows[5:], (bound([1, -1], 0), bound([-1, 0], -1), bound([1, 0], 0)))
        rows = pieces.piece_rows(NETWORK, REGION, (False, False, True))
        self.assertEqual(rows[5:], (bound([1, -1], 0), bound([1, 0], 1), bound([0, 0], -1)))

    def test_piece_form(self):
        self.assertEqual(pieces.piece_form(NETWORK, (True, True, True)), (matrix([0, -2], [0, -1]), vector(0, 4)))
        self.assertEqual(pieces.piece_form(NETWORK, (True, False, True)), (matrix([3, -2], [0, -1]), vector(-3, 4)))
        self.assertEqual(pieces.piece_form(NETWORK, (True, True, False)), (matrix([0, 1], [0, -1]), vector(0, 4)))

    def test_no_units(self):
        network = (2, (sums([[1, 2], [0, 5]], [3, 0]),))
        self.assertEqual(pieces.pattern(network, vector(1, 1)), ())
        self.assertEqual(pieces.piece_rows(network, REGION, ())[-1], bound([1, 1], 3))
        self.assertEqual(len(pieces.piece_rows(network, REGION, ())), 5)
        self.assertEqual(pieces.piece_form(network, ()), (matrix([1, 2], [0, 5]), vector(3, 0)))

    def test_errors(self):
        for value in STRANGE + [(2, ()), (1, (("bends", (True,)),))]:
            with self.assertRaises(BadNetwork):
                pieces.pattern(value, None)
            with self.assertRaises(BadNetwork):
                pieces.piece_rows(value, REGION, ())
            with self.assertRaises(BadNetwork):
                pieces.piece_form(value, ())
        for value in STRANGE + [vector(1), vector(1, 2, 3), list(vector(1, 2)), (1, 2), ((2, 4), (1, 1))]:
            with self.assertRaises(BadPoint):
                pieces.pattern(NETWORK, value)


class DrawnTest(unittest.TestCase):
    def test_on_pieces(self):
        draw = Draw(140)
        zeros = 0
        for _ in range(150):
            network = flatten(draw.network(draw.integer(1, 3)))
            region = draw.region(network[0])
            point = draw.point(network[0])
            handed = copy.deepcopy((network, region, point))
            values = bent_by(network, point)
            phases = pieces.pattern(network, point)
            self.assertEqual(phases, tuple(value > 0 for value in values))
            # A value of 0 has both phases.
            zeros += values.count(0)
            phases = tuple(draw.chance(0.5) if value == 0 else phase for value, phase in zip(values, phases))
            rows = pieces.piece_rows(network, region, phases)
            form = pieces.piece_form(network, phases)
            self.assert_on_piece(network, region, phases, rows, form, point)
            for _ in range(10):
                other = draw.point(network[0])
                self.assert_on_piece(network, region, phases, rows, form, other)
                near = tuple((9 * a * d + c * b, 10 * b * d) for (a, b), (c, d) in zip(point, other))
                near = tuple(vector(Fraction(a, b))[0] for a, b in near)
                self.assert_on_piece(network, region, phases, rows, form, near)
            self.assertEqual((network, region, point), handed)
        self.assertGreater(zeros, 20)

    def assert_on_piece(self, network, region, phases, rows, form, point):
        values = bent_by(network, point)
        fitting = all(value >= 0 if phase else value <= 0 for value, phase in zip(values, phases))
        self.assertEqual(keeps_by(rows, point), fitting and lies_in(region, point))
        if fitting:
            found = [sum(w * x for w, x in zip(fractions(row), fractions(point))) + fraction(offset)
                     for row, offset in zip(*form)]
            self.assertEqual(vector(*found), outputs_by(network, point))


if __name__ == "__main__":
    unittest.main()
