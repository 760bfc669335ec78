"""Point 207: networks that are put together of others."""

import copy
import unittest

from helpers import STRANGE, Draw, bent_by, matrix, outputs_by, sums, unit_count, vector
from kinkmeasure import joining
from kinkmeasure.errors import BadJoin, BadNetwork
from kinkmeasure.flatten import flatten
from kinkmeasure.networks import check_plain, out_size, run, units
from kinkmeasure.vectors import added, applied, subtracted

TWO = ["behind", "beside", "along", "difference"]


class PartsTest(unittest.TestCase):
    def assert_bad(self, layer, reason, call, *arguments):
        with self.assertRaises(BadNetwork) as caught:
            call(*arguments)
        self.assertEqual((caught.exception.layer, caught.exception.reason), (layer, reason))

    def test_affine(self):
        draw = Draw(30)
        for rows in range(1, 4):
            for columns in range(1, 4):
                weights, offsets = draw.matrix(rows, columns), draw.vector(rows)
                network = joining.affine(weights, offsets)
                self.assertEqual(network, (columns, (("sums", weights, offsets),)))
                point = draw.vector(columns)
                self.assertEqual(run(network, point), added(applied(weights, point), offsets))

    def test_affine_with_wrong_parts(self):
        affine = joining.affine
        good, one = matrix([1, 2]), vector(0)
        for value in STRANGE + [(), ((1, 1),), (vector(1), vector(1, 2)), [vector(1)], (((2, 4),),), 5]:
            self.assert_bad(0, "form", affine, value, one)
            self.assert_bad(0, "form", affine, value, None)
        for value in STRANGE + [(1,), ((2, 4),), [(0, 1)], 0, ((True, 1),)]:
            self.assert_bad(0, "form", affine, good, value)
        for value in [(), vector(1, 2), vector(1, 2, 3)]:
            self.assert_bad(0, "size", affine, good, value)

    def test_affine_with_wrong_inputs(self):
        affine = joining.affine
        self.assert_bad(-1, "inputs", affine, ((),), vector(0))
        self.assert_bad(-1, "inputs", affine, matrix([1] * 1001), vector(0))
        # The number of inputs is looked at before the layer.
        self.assert_bad(-1, "inputs", affine, matrix([1] * 1001), None)
        self.assert_bad(-1, "inputs", affine, ((),), vector(0, 0))
        self.assertEqual(affine(matrix([1] * 1000), vector(0))[0], 1000)

    def test_select(self):
        for size, indexes in [(1, (0,)), (3, (2, 0)), (3, (1, 1, 0)), (4, (0, 1, 2, 3)), (1000, (999,))]:
            network = joining.select(size, indexes)
            self.assertEqual(len(network[1]), 1)
            self.assertEqual(network[1][0][0], "sums")
            self.assertEqual(network[0], size)
            check_plain(network)
            point = vector(*[3 * k + 1 for k in range(size)])
            self.assertEqual(run(network, point), vector(*[3 * k + 1 for k in indexes]))

    def test_select_with_wrong_parts(self):
        for indexes in ((0,), (), None, (5,)):
            for size in (0, -1, 1001, 10**30):
                self.assert_bad(-1, "inputs", joining.select, size, indexes)
            for size in (None, True, 1.0, "1", (1,), [1]):
                self.assert_bad(-1, "form", joining.select, size, indexes)
        for indexes in STRANGE + [0, (), (3,), (-1,), (0, 3), (0, -1), [0], (True,), (0, False), (1.0,),
                                  ("0",), (None,), ((0,),), (10**20,)]:
            with self.assertRaises(BadJoin):
                joining.select(3, indexes)


class TwoTest(unittest.TestCase):
    def assert_plain_of(self, network, one, other):
        self.assertIsNone(check_plain(network))
        self.assertEqual(units(network), unit_count(one) + unit_count(other))
        self.assertEqual(units(network), units(flatten(one)) + units(flatten(other)))

    def drawn(self, seed, many=80):
        draw = Draw(seed)
        for _ in range(many):
            one = draw.plain() if draw.chance(0.3) else draw.network()
            yield draw, one

    def with_outputs(self, draw, network, size, many):
        """The network with a last layer of so many outputs, and this number of inputs."""
        first = ("sums", draw.matrix(network[0], size), draw.vector(network[0]))
        last = ("sums", draw.matrix(many, out_size(network)), draw.vector(many))
        layers = network[1] if network[0] == size else (first,) + network[1]
        return (size, layers if out_size((size, layers)) == many else layers + (last,))

    def test_behind(self):
        for draw, one in self.drawn(31):
            other = draw.network(out_size(one))
            kept = copy.deepcopy((one, other))
            network = joining.behind(one, other)
            self.assertEqual((one, other), kept)
            self.assert_plain_of(network, one, other)
            self.assertEqual(network[0], one[0])
            for _ in range(4):
                point = draw.point(one[0])
                between = outputs_by(one, point)
                self.assertEqual(run(network, point), outputs_by(other, between))
                bent = bent_by(flatten(one), point) + bent_by(flatten(other), between)
                self.assertEqual(bent_by(network, point), bent)

    def test_behind_keeps_the_order_of_units(self):
        one = (2, (sums([[1, 0], [0, 1]], [5, 7]), ("bends", (True, True)), sums([[1, 1]], [0])))
        other = (1, (sums([[2], [3]], [1, 1]), ("bends", (True, True)), sums([[1, 1]], [0])))
        network = joining.behind(one, other)
        self.assertEqual(bent_by(network, vector(1, 2)), [6, 9, 31, 46])

    def test_beside(self):
        for draw, one in self.drawn(32):
            other = draw.network(one[0])
            kept = copy.deepcopy((one, other))
            network = joining.beside(one, other)
            self.assertEqual((one, other), kept)
            self.assert_plain_of(network, one, other)
            self.assertEqual(network[0], one[0])
            for _ in range(4):
                point = draw.point(one[0])
                self.assertEqual(run(network, point), outputs_by(one, point) + outputs_by(other, point))

    def test_along(self):
        for draw, one in self.drawn(33):
            other = draw.network()
            kept = copy.deepcopy((one, other))
            network = joining.along(one, other)
            self.assertEqual((one, other), kept)
            self.assert_plain_of(network, one, other)
            self.assertEqual(network[0], one[0] + other[0])
            for _ in range(4):
                left, right = draw.point(one[0]), draw.point(other[0])
                self.assertEqual(run(network, left + right), outputs_by(one, left) + outputs_by(other, right))

    def test_difference(self):
        for draw, one in self.drawn(34):
            other = self.with_outputs(draw, draw.network(), one[0], out_size(one))
            kept = copy.deepcopy((one, other))
            network = joining.difference(one, other)
            self.assertEqual((one, other), kept)
            self.assert_plain_of(network, one, other)
            self.assertEqual((network[0], out_size(network)), (one[0], out_size(one)))
            for _ in range(4):
                point = draw.point(one[0])
                expected = subtracted(outputs_by(one, point), outputs_by(other, point))
                self.assertEqual(run(network, point), expected)

    def test_difference_of_equal_ones(self):
        for draw, one in self.drawn(35, 20):
            network = joining.difference(one, one)
            point = draw.point(one[0])
            self.assertEqual(run(network, point), vector(*[0] * out_size(one)))

    def test_without_layers(self):
        one, other = (2, ()), (2, (("bends", (True, True)),))
        point = vector(-1, 3)
        self.assertEqual(run(joining.behind(one, other), point), vector(0, 3))
        self.assertEqual(run(joining.behind(other, one), point), vector(0, 3))
        self.assertEqual(run(joining.beside(one, other), point), vector(-1, 3, 0, 3))
        self.assertEqual(run(joining.difference(one, other), point), vector(-1, 0))
        self.assertEqual(run(joining.along(one, other), point + point), vector(-1, 3, 0, 3))
        for name in TWO:
            check_plain(getattr(joining, name)(one, one))

    def test_numbers_that_do_not_fit(self):
        one = (2, (sums([[1, 1]], [0]),))
        for first, second in [(one, one), (one, (2, ())), ((3, ()), (2, ())), ((2, ()), (3, ()))]:
            with self.assertRaises(BadJoin):
                joining.behind(first, second)
        for first, second in [((1, ()), (2, ())), (one, (1, ())), (one, (3, ()))]:
            with self.assertRaises(BadJoin):
                joining.beside(first, second)
        for first, second in [(one, (2, ())), ((2, ()), one), (one, (1, ())), ((1, ()), (2, ())),
                              (one, (3, (sums([[1, 1, 1]], [0]),)))]:
            with self.assertRaises(BadJoin):
                joining.difference(first, second)

    def test_too_many_inputs_along(self):
        for first, second in [(1, 1000), (1000, 1), (501, 500), (1000, 1000)]:
            with self.assertRaises(BadNetwork) as caught:
                joining.along((first, ()), (second, ()))
            self.assertEqual((caught.exception.layer, caught.exception.reason), (-1, "inputs"))
        network = joining.along((999, (("window", 1000, vector(1), (0, 1)),)), (1, ()))
        self.assertEqual(run(network, vector(*range(1000))), vector(0, 999))

    def test_no_networks(self):
        fits, fits_not = (1, ()), (2, (sums([[1, 1], [1, 1]], [0, 0]),))
        wrong = [(None, (-1, "form")), ((0, ()), (-1, "inputs")), ((1, (None,)), (0, "form")),
                 ((1, (("bends", (True,)), ("bends", ()))), (1, "size"))]
        for name in TWO:
            call = getattr(joining, name)
            for value, fault in wrong:
                for other in (fits, fits_not, (1000, ())):
                    self.assert_fault(fault, call, value, other)
                    self.assert_fault(fault, call, other, value)
                for second, _ in wrong:
                    self.assert_fault(fault, call, value, second)

    def assert_fault(self, fault, call, one, other):
        with self.assertRaises(BadNetwork) as caught:
            call(one, other)
        self.assertEqual((caught.exception.layer, caught.exception.reason), fault)


if __name__ == "__main__":
    unittest.main()
