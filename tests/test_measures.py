"""Points 1101 and 1102, and point 2, item 1: how much of a region breaks a claim."""

import copy
import unittest
from fractions import Fraction

from helpers import STRANGE, Draw, bound, fraction, fractions, holds_by, lies_in, outputs_by, sums, vector
from kinkmeasure.claims import first_place, within
from kinkmeasure.errors import BadClaim, BadNetwork, BadRegion
from kinkmeasure.flatten import flatten
from kinkmeasure.measures import measure
from kinkmeasure.networks import out_size, units
from kinkmeasure.regions import rows_of
from kinkmeasure.search import decide
from kinkmeasure.volumes import volume
from references import measure_by

HALF = Fraction(1, 2)
ONE_UNIT = (1, (sums([[1]], [-1]), ("bends", (True,)), sums([[1]], [0])))
SPAN = (vector(0), vector(3), ())
ABSOLUTE = (1, (sums([[1], [-1]], [0, 0]), ("bends", (True, True)), sums([[1, 1]], [0])))
# The sum of the absolute values of two inputs.
DIAMOND = (2, (sums([[1, 0], [-1, 0], [0, 1], [0, -1]], [0] * 4), ("bends", (True,) * 4), sums([[1, 1, 1, 1]], [0])))
SQUARE = (vector(-1, -1), vector(1, 1), ())
SMALL = Fraction(1, 10**12)


class MeasureTest(unittest.TestCase):
    def assert_measure(self, whole, broken, network, region, claim):
        handed = copy.deepcopy((network, region, claim))
        found = measure(network, region, claim)
        self.assertEqual((network, region, claim), handed)
        self.assertEqual((type(found), fractions(found)), (tuple, [whole, broken]))

    def test_example(self):
        self.assert_measure(3, HALF, ONE_UNIT, SPAN, ((bound([1], Fraction(3, 2)),),))

    def test_one_input(self):
        self.assert_measure(3, 1, ONE_UNIT, SPAN, ((bound([1], 1),),))
        self.assert_measure(3, 2, ONE_UNIT, SPAN, ((bound([1], 0),),))
        self.assert_measure(3, 3, ONE_UNIT, SPAN, ((bound([1], -SMALL),),))
        self.assert_measure(3, SMALL, ONE_UNIT, SPAN, ((bound([1], 2 - SMALL),),))
        self.assert_measure(3, 1 + HALF, ONE_UNIT, SPAN, ((bound([-1], -HALF),),))
        self.assert_measure(3, 0, ONE_UNIT, SPAN, ((bound([1], 2),),))
        self.assert_measure(5, 2, ABSOLUTE, (vector(-2), vector(3), ()), ((bound([1], HALF * 3),), ) * 2)
        self.assert_measure(5, 2, ABSOLUTE, (vector(-2), vector(3), ()), ((bound([-1], -1),),))

    def test_two_inputs(self):
        self.assert_measure(4, 2, DIAMOND, SQUARE, ((bound([1], 1),),))
        self.assert_measure(4, HALF * HALF * 2, DIAMOND, SQUARE, ((bound([1], Fraction(3, 2)),),))
        self.assert_measure(4, HALF, DIAMOND, SQUARE, ((bound([-1], -HALF),),))
        self.assert_measure(4, HALF + 2, DIAMOND, SQUARE, ((bound([-1], -HALF),), (bound([1], 1),)))
        # Broken where the sum is above 1/2 and below 1: 2 - 1/2.
        self.assert_measure(4, 2 - HALF, DIAMOND, SQUARE, ((bound([1], HALF), bound([-1], -1)),))
        self.assert_measure(2, 1, DIAMOND, SQUARE[:2] + ((bound([1, 1], 0),),), ((bound([1], 1),),))
        self.assert_measure(1, Fraction(1, 4), (2, (("greatest", ((0, 1),)),)), (vector(0, 0), vector(1, 1), ()),
                            ((bound([-1], -HALF),),))

    def test_clauses_that_overlap(self):
        line = (1, (sums([[1], [1]], [0, 0]),))
        # Broken above 1, above 2 and below 1/2; both first ones overlap.
        claim = ((bound([1, 0], 1),), (bound([0, 1], 2),), (bound([-1, 0], -HALF),))
        self.assert_measure(3, Fraction(5, 2), line, SPAN, claim)
        for order in [(0, 2, 1), (1, 0, 2), (2, 1, 0), (1, 2, 0), (0, 0, 1)]:
            self.assert_measure(3, 2 if order == (0, 0, 1) else Fraction(5, 2), line, SPAN, tuple(claim[k] for k in order))

    def test_claims_that_hold_or_break_everywhere(self):
        for network, region in [(ONE_UNIT, SPAN), (DIAMOND, SQUARE), ((2, ()), SQUARE)]:
            whole = fraction(volume(network[0], rows_of(region)))
            many = out_size(network)
            self.assert_measure(whole, 0, network, region, ())
            self.assert_measure(whole, whole, network, region, ((),))
            self.assert_measure(whole, whole, network, region, ((bound([1] + [0] * (many - 1), 9),), ()))
            self.assert_measure(whole, 0, network, region, ((bound([0] * many, 0),),))
            self.assert_measure(whole, whole, network, region, ((bound([0] * many, -SMALL),),))
            self.assert_measure(whole, 0, network, region, within(vector(*[-9] * many), vector(*[9] * many)))
            self.assert_measure(whole, whole, network, region, within(vector(*[8] * many), vector(*[9] * many)))

    def test_no_volume(self):
        for region in [(vector(1), vector(1), ()), (vector(1), vector(0), ()), SPAN[:2] + ((bound([1], 0),),),
                       SPAN[:2] + ((bound([1], -1),),), SPAN[:2] + ((bound([0], -1),),)]:
            for claim in [(), ((),), ((bound([1], -1),),)]:
                self.assert_measure(0, 0, ONE_UNIT, region, claim)
        self.assert_measure(0, 0, DIAMOND, SQUARE[:2] + ((bound([1, -1], 0), bound([-1, 1], 0)),), ((),))

    def test_units_that_are_zero_on_pieces(self):
        # Both units are the same, so their pieces have no volume where they differ.
        twice = (1, (sums([[1], [1]], [-1, -1]), ("bends", (True, True)), sums([[1, 1]], [0])))
        self.assert_measure(3, 1, twice, SPAN, ((bound([1], 2),),))
        nothing = (1, (sums([[0]], [0]), ("bends", (True,)), sums([[1]], [0])))
        self.assert_measure(3, 0, nothing, SPAN, ((bound([1], 0),), (bound([-1], 0),)))
        self.assert_measure(3, 3, nothing, SPAN, ((bound([1], -1), bound([-1], -1)),))

    def test_every_kind_of_layer(self):
        network = (2, (("greatest", ((0, 1), (0,))), ("window", 1, vector(1, -1), (0, 1)), ("bends", (True,))))
        # The output is y - x where y is greater, else 0.
        self.assert_measure(4, HALF * HALF * HALF * 9, network, SQUARE, ((bound([1], HALF),),))
        self.assert_measure(4, 2, network, SQUARE, ((bound([1], 0),),))
        self.assert_measure(4, 2, (2, ()), SQUARE, first_place(2, 0))

    def dividing(self, draw, network, region):
        """A claim of bounds that the outputs in the middle of a region just keep."""
        middle = vector(*[(x + y) / 2 for x, y in zip(fractions(region[0]), fractions(region[1]))])
        claim = []
        for _ in range(draw.integer(1, 2)):
            lines = [draw.vector(out_size(network)) for _ in range(draw.integer(1, 2))]
            values = fractions(outputs_by(network, middle))
            claim.append(tuple(bound(fractions(line), sum(w * x for w, x in zip(fractions(line), values)))
                               for line in lines))
        return tuple(claim)

    def test_drawn(self):
        draw = Draw(400)
        kinds = []
        for _ in range(120):
            network = draw.network(draw.integer(1, 2))
            plain = flatten(network)
            if units(plain) > 5:
                continue
            region = draw.region(network[0])
            claim = draw.claim(out_size(network)) if draw.chance(0.4) else self.dividing(draw, network, region)
            found = fractions(measure(network, region, claim))
            self.assertEqual(found, list(measure_by(plain, region, claim)))
            self.assertTrue(0 <= found[1] <= found[0])
            kinds.append(found[0] and found[1] / found[0])
            if decide(network, region, claim)[0] == "holds":
                self.assertEqual(found[1], 0)
        for low, high in [(0, 0), (1, 1)]:
            self.assertGreater(sum(low <= share <= high for share in kinds), 5)
        self.assertGreater(sum(0 < share < 1 for share in kinds), 15)

    def test_three_inputs(self):
        draw = Draw(401)
        for _ in range(8):
            network = draw.deep(3, [3], 2)
            region = (vector(-1, -1, -1), vector(1, 1, 1), draw.system(3, 1))
            centre = fractions(outputs_by(network, vector(0, 0, 0)))
            claim = ((bound([1, 0], centre[0]),), (bound([0, 1], centre[1]), bound([1, -1], 0)))
            self.assertEqual(tuple(fractions(measure(network, region, claim))), measure_by(network, region, claim))

    def test_divided_regions(self):
        draw = Draw(402)
        for _ in range(40):
            size = draw.integer(1, 3)
            network = draw.deep(size, [draw.integer(1, 4), draw.integer(1, 3)], 2)
            region = (vector(*[-2] * size), vector(*[2] * size), draw.system(size, 1))
            centre = fractions(outputs_by(network, vector(*[0] * size)))
            claim = ((bound([1, 0], centre[0]),), (bound([0, 1], centre[1] + 1), bound([-1, 0], -centre[0])))
            line, limit = draw.vector(size), draw.ratio(3)
            if line == vector(*[0] * size):
                continue
            other = tuple((-a, b) for a, b in line), (-limit[0], limit[1])
            parts = [fractions(measure(network, region[:2] + (region[2] + (row,),), claim)) for row in [(line, limit), other]]
            self.assertEqual(fractions(measure(network, region, claim)), [x + y for x, y in zip(*parts)])

    def test_some_point_breaks(self):
        draw = Draw(403)
        for _ in range(40):
            network = draw.deep(2, [3, 2], 1)
            region = (vector(-1, -1), vector(1, 1), ())
            claim = ((bound([1], fraction(outputs_by(network, vector(1, 0))[0])),),)
            broken = measure(network, region, claim)[1]
            answer = decide(network, region, claim)
            if broken[0] > 0:
                self.assertEqual(answer[0], "breaks")
            if answer[0] == "holds":
                self.assertEqual(broken, (0, 1))
            self.assertEqual(broken[0] > 0, answer[0] == "breaks")

    def test_against_many_points(self):
        # The share of the broken points of a grid is near the share of the volume.
        draw = Draw(404)
        for _ in range(6):
            network = draw.deep(2, [4, 3], 1)
            region = (vector(-1, -1), vector(1, 1), (bound([1, 1], 1),))
            claim = ((bound([1], fraction(outputs_by(network, vector(0, 0))[0]) + HALF),),)
            steps = [Fraction(2 * k - 59, 60) for k in range(60)]
            points = [vector(x, y) for x in steps for y in steps]
            inside = [point for point in points if lies_in(region, point)]
            broken = [point for point in inside if not holds_by(claim, outputs_by(network, point))]
            found = fractions(measure(network, region, claim))
            self.assertAlmostEqual(float(found[0]), len(inside) / 900, delta=0.1)
            self.assertAlmostEqual(float(found[1]), len(broken) / 900, delta=0.2)

    def test_more_units(self):
        draw = Draw(405)
        for size, widths in [(2, [8, 8]), (3, [5, 4]), (3, [9]), (1, [9, 9])]:
            network = draw.deep(size, widths, 2)
            region = (vector(*[-1] * size), vector(*[1] * size), ())
            found = fractions(measure(network, region, first_place(2, 0)))
            other = fractions(measure(network, region, first_place(2, 1)))
            self.assertEqual(found[0], 2**size)
            # Where both outputs are equal there is no volume, or else both claims hold there.
            self.assertLessEqual(found[1] + other[1], found[0])


class ErrorTest(unittest.TestCase):
    def test_order(self):
        for value in STRANGE + [(0, ()), (1, (("greatest", ((1,),)),))]:
            with self.assertRaises(BadNetwork):
                measure(value, None, None)
        for value in STRANGE + [(vector(0, 0), vector(1, 1), ()), SPAN[:2], list(SPAN)]:
            with self.assertRaises(BadRegion):
                measure(ONE_UNIT, value, None)
        for value in STRANGE + [(bound([1], 2),), ((bound([1, 1], 2),),), [(bound([1], 2),)], ((bound([1], 2),), None)]:
            for region in [SPAN, (vector(1), vector(0), ())]:
                with self.assertRaises(BadClaim):
                    measure(ONE_UNIT, region, value)


if __name__ == "__main__":
    unittest.main()
