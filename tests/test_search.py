"""Point 503 and point 2, item 3: `decide`."""

import copy
import unittest
from fractions import Fraction

from helpers import STRANGE, Draw, bound, holds_by, lies_in, mixed_up, outputs_by, ratio, sums, vector
from kinkmeasure.claims import first_place, within
from kinkmeasure.errors import BadClaim, BadNetwork, BadRegion
from kinkmeasure.flatten import flatten
from kinkmeasure.joining import difference
from kinkmeasure.judge import judge
from kinkmeasure.networks import out_size
from kinkmeasure.search import decide
from references import is_paper_by

ONE_UNIT = (1, (sums([[1]], [-1]), ("bends", (True,)), sums([[1]], [0])))
SPAN = (vector(0), vector(3), ())
ABSOLUTE = (1, (sums([[1], [-1]], [0, 0]), ("bends", (True, True)), sums([[1, 1]], [0])))
SMALL = Fraction(1, 10**20)


def saw(depth):
    """A network of two units in each layer whose output goes up and down between 0 and 1."""
    fold = sums([[2, -4]], [0])
    layers = []
    for _ in range(depth):
        layers.extend([sums([[1], [1]], [0, Fraction(-1, 2)]), ("bends", (True, True)), fold])
    return flatten((1, tuple(layers)))


class DecideTest(unittest.TestCase):
    def assert_decided(self, kind, network, region, claim):
        handed = copy.deepcopy((network, region, claim))
        answer = decide(network, region, claim)
        self.assertEqual((network, region, claim), handed)
        self.assertEqual((type(answer), len(answer)), (tuple, 2))
        if kind is not None:
            self.assertEqual(answer[0], kind)
        if answer[0] == "breaks":
            self.assertTrue(lies_in(region, answer[1]))
            self.assertFalse(holds_by(claim, outputs_by(network, answer[1])))
        else:
            self.assertEqual(answer[0], "holds")
            self.assertIs(judge(network, region, claim, answer[1]), True)
            for clause, paper in zip(claim, answer[1]):
                self.assertTrue(is_paper_by(flatten(network), region, clause, paper))
        return answer[0]

    def test_examples(self):
        self.assert_decided("holds", ONE_UNIT, SPAN, ((bound([1], 2),),))
        self.assert_decided("breaks", ONE_UNIT, SPAN, ((bound([1], Fraction(3, 2)),),))

    def test_limits_that_just_hold_and_just_break(self):
        for network, region, most in [(ONE_UNIT, SPAN, 2), (ABSOLUTE, (vector(-2), vector(3), ()), 3),
                                      (ABSOLUTE, (vector(-5), vector(3), ()), 5), (saw(3), (vector(0), vector(1), ()), 1)]:
            self.assert_decided("holds", network, region, ((bound([1], most),),))
            self.assert_decided("breaks", network, region, ((bound([1], most - SMALL),),))
            self.assert_decided("holds", network, region, ((bound([-1], 0),),))
            self.assert_decided("breaks", network, region, ((bound([-1], -SMALL),),))

    def test_empty_clause_and_empty_claim(self):
        empty = (vector(1), vector(0), ())
        cut = (vector(0), vector(1), (bound([1], -1),))
        for region in (SPAN, empty, cut):
            self.assertEqual(decide(ONE_UNIT, region, ()), ("holds", ()))
        self.assert_decided("breaks", ONE_UNIT, SPAN, ((),))
        self.assert_decided("breaks", ONE_UNIT, SPAN, ((bound([1], 2),), ()))
        for region in (empty, cut):
            self.assert_decided("holds", ONE_UNIT, region, ((), (bound([1], -9),), (bound([1], -9), bound([-1], -9))))

    def test_touching_region(self):
        touching = (vector(0, 0), vector(1, 1), (bound([-1, -1], -2),))
        network = (2, (("greatest", ((0, 1),)),))
        self.assert_decided("holds", network, touching, ((bound([1], 1),), (bound([-1], -1),)))
        self.assert_decided("breaks", network, touching, ((),))
        self.assert_decided("breaks", network, touching, ((bound([1], 1 - SMALL),),))
        missed = (vector(0, 0), vector(1, 1), (bound([-1, -1], -2 - SMALL),))
        self.assert_decided("holds", network, missed, ((),))

    def test_one_point(self):
        point = (vector(Fraction(1, 3)), vector(Fraction(1, 3)), ())
        self.assert_decided("holds", saw(2), point, ((bound([1], Fraction(2, 3)),), (bound([-1], Fraction(-2, 3)),)))
        self.assert_decided("breaks", saw(2), point, ((bound([1], Fraction(2, 3) - SMALL),),))

    def test_several_bounds(self):
        # The output of the units x and -x: everywhere at most 1 or at least 1, but not at most 1 or at least 1 + a bit.
        region = (vector(-2), vector(2), ())
        self.assert_decided("holds", ABSOLUTE, region, ((bound([1], 1), bound([-1], -1)),))
        self.assert_decided("breaks", ABSOLUTE, region, ((bound([1], 1), bound([-1], -1 - SMALL)),))
        self.assert_decided("holds", ABSOLUTE, region, ((bound([1], 2), bound([1], 0)), (bound([1], -1), bound([-1], 0))))
        self.assert_decided("holds", ABSOLUTE, region, ((bound([0], 0),),))
        self.assert_decided("breaks", ABSOLUTE, region, ((bound([0], -1), bound([0], -SMALL)),))

    def test_several_clauses(self):
        region = (vector(-2), vector(3), ())
        self.assert_decided("holds", ABSOLUTE, region, within(vector(0), vector(3)))
        self.assert_decided("breaks", ABSOLUTE, region, within(vector(SMALL), vector(3)))
        self.assert_decided("breaks", ABSOLUTE, region, within(vector(0), vector(2)))
        both = (1, (sums([[1], [1]], [0, Fraction(1, 4)]), ("bends", (True, True))))
        self.assert_decided("holds", both, region, first_place(2, 1))
        self.assert_decided("breaks", both, region, first_place(2, 0))

    def test_no_layers_and_no_units(self):
        box = (vector(0, 1), vector(1, 2), ())
        self.assert_decided("holds", (2, ()), box, ((bound([1, 1], 3),), (bound([1, -1], 0),)))
        self.assert_decided("breaks", (2, ()), box, ((bound([1, -1], -SMALL),),))
        self.assert_decided("holds", (2, (("bends", (False, False)),)), box, ((bound([1, 1], 3),),))

    def test_every_kind_of_layer(self):
        draw = Draw(150)
        kinds = []
        for _ in range(220):
            network = draw.network(draw.integer(1, 3))
            region = draw.region(network[0])
            kinds.append(self.assert_decided(None, network, region, draw.claim(out_size(network))))
        self.assertGreater(kinds.count("holds"), 50)
        self.assertGreater(kinds.count("breaks"), 50)

    def test_against_many_points(self):
        draw = Draw(151)
        for _ in range(60):
            network = draw.network(1)
            region = (vector(-1), vector(1), ())
            points = [vector(Fraction(step, 12)) for step in range(-12, 13)]
            outputs = [outputs_by(network, point) for point in points]
            line = draw.vector(out_size(network))
            values = [sum(Fraction(*w) * Fraction(*x) for w, x in zip(line, taken)) for taken in outputs]
            self.assert_decided("breaks", network, region, (((line, ratio(max(values) - SMALL)),),))
            kind = self.assert_decided(None, network, region, (((line, ratio(max(values))),),))
            if kind == "breaks":
                # Between the points the output is greater, by no more than its steepness allows.
                self.assert_decided("holds", network, region, (((line, ratio(max(values) + 10**6)),),))

    def test_more_units(self):
        draw = Draw(152)
        for size, widths in [(1, [12]), (2, [6, 6]), (3, [4, 4, 4]), (2, [10]), (3, [8, 6])]:
            for _ in range(2):
                network = draw.deep(size, widths, 2)
                region = (vector(*[-1] * size), vector(*[1] * size), draw.system(size, 1))
                centre = outputs_by(network, vector(*[0] * size))
                for claim in [first_place(2, 0), first_place(2, 1), (((vector(1, 1), (20, 1)),), ((vector(1, -1), (9, 1)),)),
                              within(tuple((a - 3 * b, b) for a, b in centre), tuple((a + 3 * b, b) for a, b in centre))]:
                    self.assert_decided(None, network, region, claim)

    def test_networks_that_cancel_out(self):
        # The outputs of both halves are equal, but that is known piece by piece alone.
        draw = Draw(153)
        for size, widths in [(1, [5]), (2, [3]), (1, [3, 2]), (2, [2, 2]), (2, [2, 2, 2])]:
            for _ in range(3):
                one = draw.deep(size, widths)
                network = difference(one, mixed_up(one, draw))
                region = (vector(*[-2] * size), vector(*[2] * size), ())
                self.assert_decided("holds", network, region, ((bound([1], 0),), (bound([-1], 0),)))
                self.assert_decided("breaks", network, region, ((bound([1], -SMALL),),))
                self.assert_decided("holds", network, region, ((bound([1], SMALL),), (bound([-1], 5), bound([1], 0))))

    def test_many_inputs(self):
        # The ranges alone decide these claims, so that even many inputs take no time.
        many = 100
        rows = [[(-1) ** (k + j) * (j % 5) for k in range(many)] for j in range(3)]
        network = (many, (sums(rows, [0, 1, 2]), ("bends", (True, True, True)), sums([[1, -1, 2]], [0])))
        region = (vector(*[-1] * many), vector(*[1] * many), ())
        self.assert_decided("holds", network, region, ((bound([1], 2 * 2 * many + 4),), (bound([-1], many + 1),)))
        self.assert_decided("breaks", network, region, ((bound([1], many),),))
        self.assert_decided("holds", network, (region[1], region[0], ()), ((), (bound([1], -1),)))
        cut = region[:2] + ((bound([1] + [0] * (many - 1), 0),),)
        self.assert_decided("holds", network, cut, ((bound([1], 2 * 2 * many + 4),),))

    def test_saw(self):
        # Each layer folds the one before; the greatest value 1 is reached at many points.
        network = saw(5)
        self.assert_decided("holds", network, (vector(0), vector(1), ()), ((bound([1], 1),), (bound([-1], 0),)))
        self.assert_decided("breaks", network, (vector(0), vector(1), ()), ((bound([1], 1 - SMALL),),))


class ErrorTest(unittest.TestCase):
    def test_order(self):
        for value in STRANGE + [(0, ()), (1, (("greatest", ((1,),)),))]:
            with self.assertRaises(BadNetwork):
                decide(value, None, None)
        for value in STRANGE + [(vector(0, 0), vector(1, 1), ()), SPAN[:2], list(SPAN)]:
            with self.assertRaises(BadRegion):
                decide(ONE_UNIT, value, None)
        for value in STRANGE + [(bound([1], 2),), ((bound([1, 1], 2),),), [(bound([1], 2),)], ((bound([1], 2),), None)]:
            with self.assertRaises(BadClaim):
                decide(ONE_UNIT, SPAN, value)
        # A wrong claim is told also where the region has no point.
        with self.assertRaises(BadClaim):
            decide(ONE_UNIT, (vector(1), vector(0), ()), ((), None))


if __name__ == "__main__":
    unittest.main()
