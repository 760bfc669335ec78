"""Points 203 and 206: the plain network that gives the same."""

import copy
import itertools
import unittest

from helpers import STRANGE, Draw, outputs_by, sums, unit_count, vector
from kinkmeasure.errors import BadNetwork
from kinkmeasure.flatten import flatten
from kinkmeasure.networks import check_plain, out_size, run, units

KINDS = ["sums", "bends", "greatest", "window"]
GREATEST = ("greatest", ((0, 1, 2), (1,), (0, 2)))


class FlattenTest(unittest.TestCase):
    def assert_flat(self, network, draw, points=4):
        kept = copy.deepcopy(network)
        flat = flatten(network)
        self.assertEqual(network, kept)
        self.assertIsNone(check_plain(flat))
        self.assertEqual(flat[0], network[0])
        self.assertEqual(out_size(flat), out_size(network))
        self.assertEqual(units(flat), unit_count(network))
        for _ in range(points):
            point = draw.point(network[0])
            self.assertEqual(run(flat, point), outputs_by(network, point))
        self.assertEqual(flatten(flat), flat)
        return flat

    def test_all_orders_of_kinds(self):
        draw = Draw(20)
        for many in range(4):
            for kinds in itertools.product(KINDS, repeat=many):
                for size in (1, 2, 4):
                    self.assert_flat(draw.network(size, kinds), draw)

    def test_longer_ones(self):
        draw = Draw(21)
        for _ in range(60):
            kinds = [draw.pick(KINDS) for _ in range(draw.integer(4, 8))]
            self.assert_flat(draw.network(draw.integer(1, 6), kinds), draw)

    def test_plain_ones_stay(self):
        draw = Draw(22)
        for _ in range(60):
            network = draw.plain()
            self.assertEqual(flatten(network), network)
        no_flag = (2, (sums([[1, 2]], [3]), ("bends", (False,)), sums([[0]], [0])))
        self.assertEqual(flatten(no_flag), no_flag)

    def test_without_layers(self):
        for size in (1, 2, 7):
            flat = self.assert_flat((size, ()), Draw(size))
            self.assertEqual(run(flat, vector(*range(size))), vector(*range(size)))

    def test_groups(self):
        draw = Draw(23)
        for size in range(1, 10):
            group = tuple(range(size))
            flat = self.assert_flat((size, (("greatest", (group,)),)), draw, 12)
            self.assertEqual(units(flat), size - 1)
            twice = self.assert_flat((size, (("greatest", (group, group, (size - 1,))),)), draw)
            self.assertEqual(units(twice), 2 * size - 2)

    def test_where_the_greatest_is(self):
        for size in range(1, 8):
            flat = flatten((size, (("greatest", (tuple(range(size)),)),)))
            for values in itertools.product((-1, 0, 2), repeat=min(size, 5)):
                point = vector(*(values + (-1,) * (size - len(values))))
                self.assertEqual(run(flat, point), vector(max(x for (x, _) in point)))

    def test_several_greatest_layers(self):
        draw = Draw(24)
        self.assert_flat((3, (GREATEST, GREATEST)), draw, 10)
        self.assert_flat((3, (GREATEST, ("bends", (True, False, True)), GREATEST, GREATEST)), draw, 10)

    def test_bends_without_a_unit(self):
        draw = Draw(25)
        none = ("bends", (False, False, False))
        for layers in [(none,), (none, none), (none, GREATEST), (GREATEST, none), (none, none, none)]:
            self.assert_flat((3, layers), draw)

    def test_windows_of_every_step(self):
        draw = Draw(26)
        for step in (1, 2, 3, 4, 5, 6, 1000):
            for wide in range(1, 6):
                window = ("window", step, draw.vector(wide), draw.ratio())
                self.assert_flat((5, (window,)), draw)
                self.assert_flat((5, (("bends", (True,) * 5), window)), draw)

    def test_many_inputs(self):
        draw = Draw(27)
        window = ("window", 7, draw.vector(900), draw.ratio())
        every = ("greatest", (tuple(range(15)),))
        self.assert_flat((1000, (window, every)), draw, 1)

    def test_no_network(self):
        for value in STRANGE + [(0, ()), (1001, ()), (1, (None,)), (2, (("bends", (True,)),))]:
            with self.assertRaises(BadNetwork):
                flatten(value)
        with self.assertRaises(BadNetwork) as caught:
            flatten((1, (("bends", (True,)), ("bends", (True, True)))))
        self.assertEqual((caught.exception.layer, caught.exception.reason), (1, "size"))


if __name__ == "__main__":
    unittest.main()
