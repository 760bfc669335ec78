"""Points 603 to 609 and point 2, item 5: parts of a network, steps, and `shorten`."""

import copy
import unittest
from fractions import Fraction

from helpers import JUNK, STRANGE, Draw, bent_by, bound, fraction, outputs_by, ratio, sums, vector
from kinkmeasure.alike import alike
from kinkmeasure.errors import BadNetwork, BadRegion, BadStep
from kinkmeasure.flatten import flatten
from kinkmeasure.greatest import greatest, least
from kinkmeasure.networks import is_plain, unit_places, units
from kinkmeasure.search import decide
from kinkmeasure.smaller import judge_steps, shorten, step_made, value_difference, value_network
from references import is_paper_by

AT_MOST = (bound([1], 0),)
AT_LEAST = (bound([-1], 0),)
# Units 0 and 1 in the first layer of bends (a kept coordinate between them), unit 2 in the second one.
NETWORK = (2, (sums([[1, 2], [3, 4], [5, 6]], [7, 8, 9]), ("bends", (True, False, True)),
               sums([[1, 2, 3], [4, 5, 6]], [10, 20]), ("bends", (False, True)),
               sums([[2, 3], [4, 5], [0, 1]], [1, 2, 3])))
BOX = (vector(-2, -2), vector(2, 2), ())


def chain(flags):
    """A network of one coordinate with a bends layer for each flag."""
    layers = [sums([[2]], [1])]
    for flag in flags:
        layers.extend([("bends", (flag,)), sums([[3]], [5])])
    return (1, tuple(layers))


class ValueNetworkTest(unittest.TestCase):
    def test_written_out(self):
        kept = copy.deepcopy(NETWORK)
        self.assertEqual(value_network(NETWORK, 0), (2, (sums([[1, 2]], [7]),)))
        self.assertEqual(value_network(NETWORK, 1), (2, (sums([[5, 6]], [9]),)))
        self.assertEqual(value_network(NETWORK, 2), (2, NETWORK[1][:2] + (sums([[4, 5, 6]], [20]),)))
        self.assertEqual(value_difference(NETWORK, 1, 0), (2, (sums([[4, 4]], [2]),)))
        self.assertEqual(value_difference(NETWORK, 0, 1), (2, (sums([[-4, -4]], [-2]),)))
        self.assertEqual(NETWORK, kept)

    def test_at_many_points(self):
        draw = Draw(190)
        for _ in range(60):
            network = flatten(draw.network())
            places = unit_places(network)
            points = [draw.point(network[0]) for _ in range(5)]
            values = [bent_by(network, point) for point in points]
            for k in range(len(places)):
                part = value_network(network, k)
                self.assertTrue(is_plain(part))
                for point, found in zip(points, values):
                    self.assertEqual(outputs_by(part, point), (ratio(found[k]),))
                for j in range(len(places)):
                    if places[j][0] == places[k][0]:
                        part = value_difference(network, k, j)
                        self.assertTrue(is_plain(part))
                        for point, found in zip(points, values):
                            self.assertEqual(outputs_by(part, point), (ratio(found[k] - found[j]),))

    def test_units_that_there_are_not(self):
        for k in [3, -1, -3, 10**20, True, False, None, "0", 1.0, (0,), [0]]:
            with self.assertRaises(BadNetwork):
                value_network(NETWORK, k)
            for j in (0, k):
                with self.assertRaises(BadNetwork):
                    value_difference(NETWORK, j, k)
                with self.assertRaises(BadNetwork):
                    value_difference(NETWORK, k, j)

    def test_units_of_two_layers(self):
        for k, j in [(0, 2), (2, 0), (1, 2), (2, 1)]:
            with self.assertRaises(BadNetwork):
                value_difference(NETWORK, k, j)

    def test_networks_that_are_not_plain(self):
        for value in STRANGE + [(2, ()), (1, (("bends", (True,)),)), (1, (("greatest", ((0,),)),)), NETWORK[1]]:
            for call in (lambda: value_network(value, 0), lambda: value_difference(value, 0, 0),
                         lambda: step_made(value, None), lambda: shorten(value, None),
                         lambda: judge_steps(value, None, None)):
                with self.assertRaises(BadNetwork):
                    call()


class StepTest(unittest.TestCase):
    def assert_made(self, network, step, expected):
        handed = copy.deepcopy((network, step))
        self.assertEqual(step_made(network, step), expected)
        self.assertEqual((network, step), handed)

    def test_nothing(self):
        self.assert_made(NETWORK, ("nothing", 0, None), (2, (
            sums([[3, 4], [5, 6]], [8, 9]), ("bends", (False, True)), sums([[2, 3], [5, 6]], [10, 20]),
        ) + NETWORK[1][3:]))
        self.assert_made(NETWORK, ("nothing", 1, ("leaf", (), ())), (2, (
            sums([[1, 2], [3, 4]], [7, 8]), ("bends", (True, False)), sums([[1, 2], [4, 5]], [10, 20]),
        ) + NETWORK[1][3:]))
        self.assert_made(NETWORK, ("nothing", 2, None), (2, NETWORK[1][:2] + (
            sums([[1, 2, 3]], [10]), ("bends", (False,)), sums([[2], [4], [0]], [1, 2, 3]))))

    def test_nothing_of_the_last_coordinate(self):
        self.assert_made(chain([True, True]), ("nothing", 0, None), (1, (
            sums([[0]], [0]), ("bends", (False,)), sums([[3]], [5]), ("bends", (True,)), sums([[3]], [5]))))
        self.assert_made(chain([True, True]), ("nothing", 1, None), (1, (
            sums([[2]], [1]), ("bends", (True,)), sums([[0]], [0]), ("bends", (False,)), sums([[3]], [5]))))
        wide = (3, (sums([[1, 2, 3]], [4]), ("bends", (True,)), sums([[5], [6]], [7, 8])))
        self.assert_made(wide, ("nothing", 0, None), (3, (
            sums([[0, 0, 0]], [0]), ("bends", (False,)), sums([[5], [6]], [7, 8]))))

    def test_straight(self):
        for k, flags in [(0, (False, False, True)), (1, (True, False, False))]:
            self.assert_made(NETWORK, ("straight", k, None), (2, NETWORK[1][:1] + (("bends", flags),) + NETWORK[1][2:]))
        self.assert_made(NETWORK, ("straight", 2, []), (2, NETWORK[1][:3] + (("bends", (False, False)),) + NETWORK[1][4:]))

    def test_same(self):
        self.assert_made(NETWORK, ("same", 1, 0, None, None), (2, (
            sums([[1, 2], [3, 4]], [7, 8]), ("bends", (True, False)), sums([[4, 2], [10, 5]], [10, 20]),
        ) + NETWORK[1][3:]))
        three = (1, (sums([[1], [2], [3]], [4, 5, 6]), ("bends", (True, True, True)), sums([[1, 10, 100]], [0])))
        for k, j, row, left in [(1, 0, [11, 100], (0, 2)), (2, 0, [101, 10], (0, 1)), (2, 1, [1, 110], (0, 1))]:
            matrix = [[[1], [2], [3]][at] for at in left]
            self.assert_made(three, ("same", k, j, None, None), (1, (
                sums(matrix, [[4, 5, 6][at] for at in left]), ("bends", (True, True)), sums([row], [0]))))

    def test_same_adds_ratio_by_ratio(self):
        half, third = Fraction(1, 2), Fraction(1, 3)
        network = (1, (sums([[1], [1]], [0, 0]), ("bends", (True, True)), sums([[half, third], [0, -1]], [1, 2])))
        self.assert_made(network, ("same", 1, 0, None, None), (1, (
            sums([[1]], [0]), ("bends", (True,)), sums([[Fraction(5, 6)], [-1]], [1, 2]))))

    def test_join(self):
        self.assert_made(chain([False, True]), ("join", 1), (1, (
            sums([[6]], [8]), ("bends", (True,)), sums([[3]], [5]))))
        self.assert_made(chain([True, False]), ("join", 3), (1, (
            sums([[2]], [1]), ("bends", (True,)), sums([[9]], [20]))))
        network = (2, (sums([[1, 2], [3, 4]], [5, 6]), ("bends", (False, False)), sums([[1, 10], [0, -1]], [7, 8])))
        self.assert_made(network, ("join", 1), (2, (sums([[31, 42], [-3, -4]], [72, 2]),)))

    def test_wrong_steps(self):
        wrong = STRANGE + [
            (), ("nothing",), ("nothing", 0), ("nothing", 0, None, None), ["nothing", 0, None], ("straight", 0),
            ("straight", 0, None, None), ("same", 1, 0), ("same", 1, 0, None), ("same", 1, 0, None, None, None),
            ("same", 0, 1, None, None), ("same", 1, 1, None, None), ("same", 2, 0, None, None), ("join",),
            ("same", 2, 1, None, None), ("join", 1), ("join", 3), ("join", 0), ("join", 2), ("join", 1, None),
            ("other", 0, None), ("Nothing", 0, None), (b"nothing", 0, None), (None, 0, None), 0, -1,
        ]
        for k in [3, -1, True, False, None, "0", 0.0, (0,), [0], 10**30]:
            wrong.extend([("nothing", k, None), ("straight", k, None), ("same", k, 0, None, None),
                          ("same", 1, k, None, None), ("join", k)])
        for step in wrong:
            with self.assertRaises(BadStep) as caught:
                step_made(NETWORK, step)
            self.assertEqual(caught.exception.place, 0)

    def test_joins_that_there_are_not(self):
        network = chain([False, True, False])
        for index in [0, 2, 3, 4, 6, 7, -2, -6, True, None]:
            with self.assertRaises(BadStep):
                step_made(network, ("join", index))
        for index in (1, 5):
            self.assertEqual(len(step_made(network, ("join", index))[1]), 5)


class ShortenTest(unittest.TestCase):
    def assert_shortened(self, network, region, words=None):
        handed = copy.deepcopy((network, region))
        found, steps = shorten(network, region)
        self.assertEqual((network, region), handed)
        self.assertIs(type(steps), tuple)
        self.assertEqual(judge_steps(network, region, steps), found)
        if words is not None:
            self.assertEqual([step[:-1] if step[0] in ("nothing", "straight") else step[:3] for step in steps], words)
        here = network
        for step in steps:
            self.assert_first(here, region, step)
            here = step_made(here, step)
        self.assertEqual(here, found)
        self.assert_first(here, region, None)
        self.assertEqual(alike(network, found, region)[0], "alike")
        self.assert_small(found, region)
        return found

    def assert_first(self, network, region, step):
        """No step ahead of this one can be made."""
        places = unit_places(network)
        for index, layer in enumerate(network[1]):
            if layer[0] == "bends" and True not in layer[1]:
                self.assertEqual(step, ("join", index))
                return
        for k in range(len(places)):
            tries = [("nothing", k, value_network(network, k), (AT_MOST,)),
                     ("straight", k, value_network(network, k), (AT_LEAST,))]
            tries += [("same", k, j, value_difference(network, k, j), (AT_MOST, AT_LEAST))
                      for j in range(k) if places[j][0] == places[k][0]]
            for candidate in tries:
                asked, claim = candidate[-2:]
                if decide(asked, region, claim)[0] == "holds":
                    self.assertIsNotNone(step)
                    self.assertEqual(step[:len(candidate) - 2], candidate[:-2])
                    for clause, paper in zip(claim, step[len(candidate) - 2:]):
                        self.assertTrue(is_paper_by(asked, region, clause, paper))
                    return
        self.assertIsNone(step)

    def assert_small(self, network, region):
        self.assertTrue(is_plain(network))
        self.assertTrue(all(True in layer[1] for layer in network[1] if layer[0] == "bends"))
        for k in range(units(network)):
            part = value_network(network, k)
            most = greatest(part, region, vector(1))
            fewest = least(part, region, vector(1))
            self.assertTrue(fraction(fewest[1]) < 0 < fraction(most[1]))

    def test_each_step(self):
        # Values: -x - 1 (never above 0), x + 1 (never below), 2x - 1, and the same again; x from 0 to 2.
        network = (1, (sums([[-1], [1], [2], [2]], [-1, 1, -1, -1]), ("bends", (True,) * 4), sums([[1, 1, 1, 5]], [0])))
        region = (vector(0), vector(2), ())
        found = self.assert_shortened(network, region, [("nothing", 0), ("straight", 0), ("same", 1, 0)])
        self.assertEqual(found, (1, (sums([[1], [2]], [1, -1]), ("bends", (False, True)), sums([[1, 6]], [0]))))

    def test_edges(self):
        # A value from 0 on, one up to 0, and one that is 0: `nothing` comes first.
        network = (1, (sums([[1], [-1], [0]], [0, 0, 0]), ("bends", (True,) * 3), sums([[1, 1, 1]], [0])))
        region = (vector(0), vector(2), ())
        found = self.assert_shortened(network, region, [("straight", 0), ("nothing", 0), ("nothing", 0), ("join", 1)])
        self.assertEqual(found, (1, (sums([[1]], [0]),)))
        wide = (vector(Fraction(-1, 10**9)), vector(2), ())
        self.assert_shortened(network, wide, [("nothing", 2)])

    def test_the_last_coordinate(self):
        region = (vector(0), vector(2), ())
        network = (1, (sums([[-1]], [-1]), ("bends", (True,)), sums([[3], [4]], [5, 6])))
        found = self.assert_shortened(network, region, [("nothing", 0), ("join", 1)])
        self.assertEqual(found, (1, (sums([[0], [0]], [5, 6]),)))

    def test_joins_come_first(self):
        found = self.assert_shortened(chain([False, True, False]), (vector(-3), vector(3), ()), [("join", 1), ("join", 3)])
        self.assertEqual(found, (1, (sums([[6]], [8]), ("bends", (True,)), sums([[9]], [20]))))

    def test_same_with_the_least(self):
        network = (1, (sums([[1]] * 4, [0] * 4), ("bends", (True,) * 4), sums([[1, 2, 3, 4]], [0])))
        found = self.assert_shortened(network, (vector(-1), vector(1), ()), [("same", 1, 0)] * 3)
        self.assertEqual(found, (1, (sums([[1]], [0]), ("bends", (True,)), sums([[10]], [0]))))

    def test_same_in_the_region_alone(self):
        # On the line x = y the two values are equal; beside it they are not.
        network = (2, (sums([[1, 0], [0, 1]], [0, 0]), ("bends", (True, True)), sums([[1, 2]], [0])))
        line = BOX[:2] + ((bound([1, -1], 0), bound([-1, 1], 0)),)
        found = self.assert_shortened(network, line, [("same", 1, 0)])
        self.assertEqual(found[1][2], sums([[3]], [0]))
        beside = BOX[:2] + ((bound([1, -1], Fraction(1, 10**9)), bound([-1, 1], 0)),)
        self.assertEqual(self.assert_shortened(network, beside, []), network)

    def test_no_point(self):
        # Every claim holds, so the units are taken away one by one from the first on.
        network = (1, (sums([[1], [2]], [0, 0]), ("bends", (True, True)), sums([[1, 1]], [0]), ("bends", (True,)),
                       sums([[1]], [2])))
        for region in [(vector(1), vector(0), ()), (vector(0), vector(1), (bound([0], -1),))]:
            found, steps = shorten(network, region)
            self.assertEqual([step[:2] for step in steps],
                             [("nothing", 0), ("nothing", 0), ("join", 1), ("nothing", 0), ("join", 1)])
            self.assertEqual(found, (1, (sums([[0]], [2]),)))
            self.assertEqual(judge_steps(network, region, steps), found)

    def test_no_units(self):
        network = (1, (sums([[1]], [0]),))
        self.assertEqual(shorten(network, (vector(0), vector(1), ())), (network, ()))
        for value in STRANGE:
            with self.assertRaises(BadRegion):
                shorten(network, value)
            with self.assertRaises(BadRegion):
                judge_steps(network, value, ())

    def test_same_values_in_two_layers(self):
        # The input itself goes by the first bend, and is bent by the second one again.
        network = (1, (sums([[1], [1]], [0, 0]), ("bends", (True, False)), sums([[1, 0], [0, 1]], [-1, 0]),
                       ("bends", (True, True)), sums([[1, 1]], [0])))
        self.assertEqual(self.assert_shortened(network, (vector(-2), vector(2), ()), []), network)

    def test_drawn(self):
        draw = Draw(191)
        words = []
        for _ in range(60):
            network = flatten(draw.network(draw.integer(1, 2)))
            region = draw.region(network[0], draw.integer(0, 1))
            if decide(network, region, ((),))[0] == "holds" or units(network) > 12:
                continue
            self.assert_shortened(network, region)
            words.extend(step[0] for step in shorten(network, region)[1])
        for word in ("nothing", "straight", "join"):
            self.assertGreater(words.count(word), 10)

    def test_twins(self):
        draw = Draw(192)
        merged = 0
        for _ in range(25):
            size, layers = draw.deep(draw.integer(1, 2), [2, 2])
            at = draw.pick((0, 2))
            _, matrix, offsets = layers[at]
            _, later, last = layers[at + 2]
            # The first unit of a layer stands there twice.
            twins = ("sums", matrix + matrix[:1], offsets + offsets[:1])
            more = tuple(row + (draw.ratio(),) for row in later)
            network = (size, layers[:at] + (twins, ("bends", (True,) * 3), ("sums", more, last)) + layers[at + 3:])
            region = (vector(*[-1] * size), vector(*[1] * size), ())
            found = self.assert_shortened(network, region)
            self.assertLess(units(found), units(network))
            merged += any(step[0] == "same" for step in shorten(network, region)[1])
        self.assertGreater(merged, 3)


class JudgeStepsTest(unittest.TestCase):
    NETWORK = (1, (sums([[-3], [1], [2], [2]], [-1, 1, -1, -1]), ("bends", (True,) * 4), sums([[1, 1, 1, 5]], [0]),
                   ("bends", (False,)), sums([[1]], [0])))
    REGION = (vector(0), vector(2), ())

    def setUp(self):
        self.found, self.steps = shorten(self.NETWORK, self.REGION)

    def assert_wrong(self, place, steps, region=REGION):
        kept = repr(steps)
        with self.assertRaises(BadStep) as caught:
            judge_steps(self.NETWORK, region, steps)
        self.assertEqual(caught.exception.place, place)
        self.assertEqual(repr(steps), kept)

    def test_steps(self):
        self.assertEqual([step[0] for step in self.steps], ["join", "nothing", "straight", "same"])
        here = self.NETWORK
        self.assertEqual(judge_steps(here, self.REGION, ()), here)
        for many in range(1, 5):
            here = step_made(here, self.steps[many - 1])
            self.assertEqual(judge_steps(self.NETWORK, self.REGION, self.steps[:many]), here)
        self.assertEqual(here, self.found)

    def test_other_orders_are_steps_too(self):
        # `judge_steps` does not ask for the order of `shorten`: the units are those of the network then.
        papers = [decide(value_network(self.NETWORK, k), self.REGION, (clause,))[1][0]
                  for k, clause in [(1, AT_LEAST), (0, AT_MOST)]]
        steps = (("straight", 1, papers[0]), ("nothing", 0, papers[1]))
        found = judge_steps(self.NETWORK, self.REGION, steps)
        self.assertEqual(found[1][1], ("bends", (False, True, True)))
        self.assertEqual(found[1][0], sums([[1], [2], [2]], [1, -1, -1]))

    def test_the_first_wrong_one(self):
        for at in range(4):
            for wrong in [None, (), ("join", 0), ("nothing", 9, None), list(self.steps[at]), ("nothing", True, None)]:
                self.assert_wrong(at, self.steps[:at] + (wrong,) + self.steps[at + 1:])
                self.assert_wrong(at, self.steps[:at] + (wrong, None))
        self.assert_wrong(4, self.steps + (("join", 1),))
        self.assert_wrong(1, (self.steps[0], self.steps[2]))

    def test_no_tuple(self):
        for value in STRANGE + [list(self.steps), 0]:
            if not isinstance(value, tuple):
                self.assert_wrong(0, value)

    def test_papers(self):
        join, nothing, straight, same = self.steps
        for paper in JUNK + [straight[2], same[3], (nothing[2],)]:
            self.assert_wrong(1, (join, nothing[:2] + (paper,)))
        for paper in JUNK + [nothing[2]]:
            self.assert_wrong(2, (join, nothing, straight[:2] + (paper,)))
            self.assert_wrong(3, (join, nothing, straight, same[:3] + (paper, same[4])))
            self.assert_wrong(3, (join, nothing, straight, same[:4] + (paper,)))
        self.assert_wrong(1, (join, ("straight", 0, nothing[2])))

    def test_other_region(self):
        self.assert_wrong(1, self.steps, (vector(-3), vector(2), ()))

    def test_errors(self):
        for value in STRANGE + [(vector(0, 0), vector(1, 1), ())]:
            with self.assertRaises(BadRegion):
                judge_steps(self.NETWORK, value, None)
            with self.assertRaises(BadRegion):
                shorten(self.NETWORK, value)


if __name__ == "__main__":
    unittest.main()
