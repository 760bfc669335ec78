"""Points 200 to 205: networks, their faults, their runs and their units."""

import copy
import unittest

from helpers import (JUNK, STRANGE, Draw, given_by, matrix, outputs_by, replaced, shortened, sums, trail_by,
                     vector)
from kinkmeasure import networks
from kinkmeasure.errors import BadNetwork, BadPoint

ONE = (1, 1)
BEND = ("bends", (True,))
LAYERS = (("sums", (((1, 1), (-1, 1)),), ((1, 2),)), ("bends", (True,)))

FORM_ONLY = ["check", "check_plain", "sizes", "out_size", "is_plain", "unit_places", "units"]


def fault_of(network):
    """The layer and the reason of the error that `check` raises, or None."""
    try:
        networks.check(network)
    except BadNetwork as error:
        return (error.layer, error.reason)
    return None


class FaultTest(unittest.TestCase):
    def assert_fault(self, network, layer, reason):
        kept = repr(network)
        self.assertEqual(fault_of(network), (layer, reason), network)
        for name in FORM_ONLY:
            with self.assertRaises(BadNetwork) as caught:
                getattr(networks, name)(network)
            error = caught.exception
            self.assertEqual((error.layer, error.reason), (layer, reason), name)
        for name in ("run", "trail"):
            for point in (None, ((1, 1),)):
                with self.assertRaises(BadNetwork) as caught:
                    getattr(networks, name)(network, point)
                error = caught.exception
                self.assertEqual((error.layer, error.reason), (layer, reason), name)
        self.assertEqual(repr(network), kept)

    def assert_form(self, layer):
        """The layer is none, whatever it takes: 1 to 3 numbers, as the first one or a later one."""
        for size in (1, 2, 3):
            self.assert_fault((size, (layer,)), 0, "form")
            self.assert_fault((size, (("bends", (False,) * size), layer)), 1, "form")

    def test_form_of_the_network(self):
        for value in [None, True, 5, "a", [], [1, ()], (), (1,), (1, (), ()), ((), 1), (1, []), (1, None),
                      (True, ()), (False, ()), (1.0, ()), ("1", ()), (None, ()), ((1,), ()), (1, "ab"),
                      (1, ""), ("", ()), (1, 0), ([1], ())]:
            self.assert_fault(value, -1, "form")

    def test_numbers_of_inputs(self):
        for size in (0, -1, 1001, 10**50, -(10**50)):
            self.assert_fault((size, ()), -1, "inputs")
        for size in (1, 2, 999, 1000):
            self.assertIsNone(networks.check((size, ())))
            self.assertEqual(networks.sizes((size, ())), (size,))

    def test_form_comes_before_inputs_and_layers(self):
        self.assert_fault((0, []), -1, "form")
        self.assert_fault((1001, (None,)), -1, "inputs")
        self.assert_fault((0, (("bends", (True,)),)), -1, "inputs")

    def test_kinds(self):
        for layer in STRANGE + [(), 0, 1, ("sum", (((1, 1),),), ((0, 1),)), ("Sums", (((1, 1),),), ((0, 1),)),
                                ("bend", (True,)), (("bends",), (True,)), (None, (True,)), (0, (True,)),
                                ["bends", (True,)], ("bends", [True]), ((True,),), ((True,), "bends"),
                                ("greatest", [(0,)]), ("greatest", ([0],)), "bends", ("max", ((0,),))]:
            self.assert_form(layer)

    def test_form_of_sums(self):
        row, offsets = ((1, 1),), ((0, 1),)
        for layer in [("sums",), ("sums", (row,)), ("sums", (row,), offsets, offsets), ("sums", (), ()),
                      ("sums", (), offsets), ("sums", [row], offsets), ("sums", (row,), [(0, 1)]),
                      ("sums", ([(1, 1)],), offsets), ("sums", (((2, 4),),), offsets),
                      ("sums", (((1, 0),),), offsets), ("sums", (((True, 1),),), offsets),
                      ("sums", ((1,),), offsets), ("sums", (row,), ((2, 2),)), ("sums", (row,), (0,)),
                      ("sums", (row,), None), ("sums", None, offsets), ("sums", (row,), ((True, 1),)),
                      ("sums", (row, row + row), offsets + offsets), ("sums", (row + row, row), offsets),
                      ("sums", (row, ()), offsets), ("sums", ((), row), offsets), ("sums", row, offsets),
                      ("sums", (None,), offsets)]:
            self.assert_form(layer)

    def test_form_of_bends(self):
        for layer in [("bends",), ("bends", (True,), (True,)), ("bends", True), ("bends", None),
                      ("bends", (1,)), ("bends", (0, True)), ("bends", (None,)), ("bends", ("bend",)),
                      ("bends", (True, 0, False)), ("bends", "a"), ("bends", ((True,),)), ("bends", (1.0,))]:
            self.assert_form(layer)

    def test_form_of_greatest(self):
        for layer in [("greatest",), ("greatest", ()), ("greatest", ((),)), ("greatest", ((0,), ())),
                      ("greatest", (0,)), ("greatest", ((0, 0),)), ("greatest", ((1, 0),)),
                      ("greatest", ((0, 2, 1),)), ("greatest", ((-1,),)), ("greatest", ((-1, 0),)),
                      ("greatest", ((True,),)), ("greatest", ((False,),)), ("greatest", ((0, True),)),
                      ("greatest", ((0,),), ((0,),)), ("greatest", ((0.0,),)), ("greatest", (("0",),)),
                      ("greatest", ((0,), None)), ("greatest", None), ("greatest", (((0,),),)),
                      ("greatest", ((0, 1, 1),)), ("greatest", ((5, 4),)), ("greatest", ((0,), (1, 0)))]:
            self.assert_form(layer)

    def test_form_of_windows(self):
        weights, offset = ((1, 1),), (0, 1)
        for layer in [("window",), ("window", 1), ("window", 1, weights), ("window", 1, weights, offset, 1),
                      ("window", 0, weights, offset), ("window", -1, weights, offset),
                      ("window", 1001, weights, offset), ("window", 10**30, weights, offset),
                      ("window", True, weights, offset), ("window", None, weights, offset),
                      ("window", 1.0, weights, offset), ("window", (1, 1), weights, offset),
                      ("window", 1, (), offset), ("window", 1, [(1, 1)], offset),
                      ("window", 1, ((2, 4),), offset), ("window", 1, (weights,), offset),
                      ("window", 1, weights, (2, 4)), ("window", 1, weights, 0), ("window", 1, weights, None),
                      ("window", 1, weights, weights), ("window", 1, None, offset), ("window", 1, 1, offset)]:
            self.assert_form(layer)

    def test_steps(self):
        for step in (1, 2, 999, 1000):
            layer = ("window", step, ((1, 1),), (0, 1))
            self.assertIsNone(networks.check((3, (layer,))))
            self.assertEqual(networks.sizes((3, (layer,)))[1], {1: 3, 2: 2}.get(step, 1))

    def assert_size(self, size, layer):
        self.assert_fault((size, (layer,)), 0, "size")
        self.assert_fault((size, (("bends", (True,) * size), layer)), 1, "size")
        three = ("sums", matrix(*[[1] * 7] * size), vector(*[0] * size))
        self.assert_fault((7, (three, layer)), 1, "size")

    def test_sizes(self):
        self.assert_size(2, sums([[1]], [0]))
        self.assert_size(1, sums([[1, 2]], [0]))
        self.assert_size(1, ("sums", ((),), vector(0)))
        self.assert_size(2, sums([[1, 2], [3, 4]], [0]))
        self.assert_size(2, sums([[1, 2], [3, 4]], [0, 0, 0]))
        self.assert_size(2, sums([[1, 2], [3, 4]], []))
        self.assert_size(1, ("bends", ()))
        self.assert_size(2, ("bends", (True,)))
        self.assert_size(2, ("bends", (True, False, True)))
        self.assert_size(2, ("greatest", ((0, 1), (2,))))
        self.assert_size(2, ("greatest", ((0, 2), (0,))))
        self.assert_size(1, ("greatest", ((10**20,),)))
        self.assert_size(2, ("window", 1, vector(1, 2, 3), ONE))
        self.assert_size(1, ("window", 1000, vector(1, 2), ONE))

    def test_just_right(self):
        for size, layer in [(2, sums([[1, 2]], [0])), (1, ("greatest", ((0,), (0,)))),
                            (3, ("greatest", ((0, 1, 2), (2,)))), (3, ("window", 1000, vector(1, 2, 3), ONE)),
                            (2, ("bends", (False, False))), (2, ("bends", (True, True)))]:
            self.assertIsNone(networks.check((size, (layer,))))

    def test_first_of_two_faults(self):
        wrong_form, wrong_size = ("bends", (1,)), ("bends", (True, True))
        self.assert_fault((1, (BEND, wrong_form, wrong_size)), 1, "form")
        self.assert_fault((1, (BEND, wrong_size, wrong_form)), 1, "size")
        self.assert_fault((1, (BEND, BEND, wrong_size, None)), 2, "size")
        self.assert_fault((1, (None, wrong_size)), 0, "form")
        # A layer with both faults has the fault of the form.
        self.assert_fault((1, (("bends", (True, 1)),)), 0, "form")
        self.assert_fault((1, (("sums", (vector(1, 2), vector(1)), vector(0)),)), 0, "form")
        self.assert_fault((1, (("sums", matrix([1, 2]), (0,)),)), 0, "form")
        self.assert_fault((1, (("greatest", ((7,), ())),)), 0, "form")
        self.assert_fault((1, (("window", 0, vector(1, 2), ONE),)), 0, "form")
        self.assert_fault((1, (("window", 1, vector(1, 2), 1),)), 0, "form")

    def test_later_layers_take_what_is_given(self):
        layers = (sums([[1, 2, 3]] * 4, [0] * 4), ("greatest", ((0, 1), (3,))), ("window", 1, vector(1), ONE))
        self.assertEqual(networks.sizes((3, layers)), (3, 4, 2, 2))
        self.assert_fault((3, layers + (("bends", (True,) * 3),)), 3, "size")

    def test_one_place_replaced(self):
        draw = Draw(10)
        for kind in ("sums", "bends", "greatest", "window"):
            network = draw.network(2, [kind])
            for junk in JUNK:
                for value in replaced(network, junk):
                    self.check_any(value)

    def test_one_item_more_or_less(self):
        draw = Draw(11)
        for kind in ("sums", "bends", "greatest", "window"):
            for value in shortened(draw.network(3, [kind, "bends"])):
                self.check_any(value)

    def check_any(self, value):
        """Every value is a network that runs, or raises the same error everywhere."""
        fault = fault_of(value)
        if fault is not None:
            self.assert_fault(value, *fault)
            return
        size, layers = value
        self.assertTrue(1 <= size <= 1000)
        if size < 10 and all(given_by(layer, 1) < 100 for layer in layers):
            point = vector(*range(size))
            self.assertEqual(networks.run(value, point), outputs_by(value, point))


class RunTest(unittest.TestCase):
    def test_examples(self):
        self.assertEqual(networks.sizes((2, LAYERS)), (2, 1, 1))
        trail = networks.trail((2, LAYERS), ((1, 1), (3, 1)))
        self.assertEqual(trail, (((1, 1), (3, 1)), ((-3, 2),), ((0, 1),)))
        greatest = (3, (("greatest", ((0, 2), (1,))),))
        self.assertEqual(networks.run(greatest, ((1, 1), (4, 1), (3, 2))), ((3, 2), (4, 1)))
        window = (3, (("window", 2, ((1, 2),), (1, 1)),))
        self.assertEqual(networks.run(window, ((1, 1), (4, 1), (3, 1))), ((3, 2), (5, 2)))

    def test_drawn_networks(self):
        draw = Draw(12)
        for _ in range(300):
            network = draw.network()
            kept = copy.deepcopy(network)
            sizes = [network[0]]
            for layer in network[1]:
                sizes.append(given_by(layer, sizes[-1]))
            self.assertEqual(networks.sizes(network), tuple(sizes))
            self.assertEqual(networks.out_size(network), sizes[-1])
            for _ in range(4):
                point = draw.point(network[0])
                expected = tuple(vector(*values) for values in trail_by(network, point))
                self.assertEqual(networks.trail(network, point), expected)
                self.assertEqual(networks.run(network, point), expected[-1])
                for index, layer in enumerate(network[1]):
                    self.assertEqual(networks.passed(layer, expected[index]), expected[index + 1])
            self.assertEqual(network, kept)

    def test_without_layers(self):
        self.assertEqual(networks.run((2, ()), vector(1, -2)), vector(1, -2))
        self.assertEqual(networks.trail((2, ()), vector(1, -2)), (vector(1, -2),))
        self.assertEqual(networks.out_size((2, ())), 2)

    def test_bends(self):
        layer = ("bends", (True, True, True, False, False))
        self.assertEqual(networks.passed(layer, vector(-1, 0, 2, -3, 4)), vector(0, 0, 2, -3, 4))

    def test_windows(self):
        for step in (1, 2, 3, 4, 5, 1000):
            for wide in range(1, 6):
                layer = ("window", step, vector(*range(1, wide + 1)), ONE)
                starts = [start for start in range(0, 5, step) if start + wide <= 5]
                expected = [1 + sum((k + 1) * 10 ** (start + k) for k in range(wide)) for start in starts]
                point = vector(*[10**k for k in range(5)])
                self.assertEqual(networks.run((5, (layer,)), point), vector(*expected))
                self.assertEqual(networks.sizes((5, (layer,))), (5, len(starts)))

    def test_greatest(self):
        layer = ("greatest", ((0, 1, 2), (1, 2), (1,), (1,)))
        self.assertEqual(networks.passed(layer, vector(-1, -3, -2)), vector(-1, -2, -3, -3))

    def test_points(self):
        network = (2, LAYERS)
        one = (1, 1)
        for point in STRANGE + [(), (one,), (one, one, one), [one, one], (one, [1, 1]), (one, (2, 4)), (1, 1),
                                (one, None), (one, (True, 1)), (one, (1, 0)), ((one, one),), 0]:
            for name in ("run", "trail"):
                with self.assertRaises(BadPoint):
                    getattr(networks, name)(network, point)

    def test_many_inputs(self):
        network = (1000, (("window", 3, vector(*range(998)), ONE),))
        self.assertEqual(networks.run(network, vector(*[1] * 1000)), vector(998 * 997 // 2 + 1))


class PlainTest(unittest.TestCase):
    def test_plain(self):
        one = sums([[1]], [0])
        for layers, right in [((), False), ((one,), True), ((one, BEND), False), ((BEND, one), False),
                              ((BEND,), False), ((one, BEND, one), True), ((one, one), False),
                              ((one, one, one), False), ((one, BEND, BEND, one), False),
                              ((one, BEND, one, BEND), False), ((one, BEND, one, BEND, one), True),
                              ((BEND, one, BEND), False), ((one, BEND, ("greatest", ((0,),))), False),
                              ((one, ("greatest", ((0,),)), one), False), ((one, one, BEND), False),
                              ((("window", 1, vector(1), ONE),), False),
                              ((one, ("bends", (False,)), one), True)]:
            network = (1, layers)
            self.assertIs(networks.is_plain(network), right, layers)
            if right:
                self.assertIsNone(networks.check_plain(network))
                continue
            with self.assertRaises(BadNetwork) as caught:
                networks.check_plain(network)
            error = caught.exception
            self.assertEqual((error.layer, error.reason), (-1, "plain"))

    def test_drawn_plain(self):
        draw = Draw(13)
        for _ in range(50):
            self.assertIs(networks.is_plain(draw.plain()), True)

    def test_units(self):
        one = sums([[1, 0, 0]] * 3, [0] * 3)
        bends = [("bends", flags) for flags in ((True, False, True), (False,) * 3, (False, True, True))]
        network = (3, (bends[0], one, bends[1], ("greatest", ((0, 1), (0,), (2,))), bends[2]))
        self.assertEqual(networks.unit_places(network), ((0, 0), (0, 2), (4, 1), (4, 2)))
        self.assertEqual(networks.units(network), 4)
        self.assertEqual(networks.unit_places((3, ())), ())
        self.assertEqual(networks.units((3, (one,))), 0)
        self.assertEqual(networks.unit_places((3, (bends[1],))), ())


if __name__ == "__main__":
    unittest.main()
