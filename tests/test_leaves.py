"""Points 404 to 407: the bounds of a leaf, the goals of a clause, and right leaves."""

import copy
import unittest
from fractions import Fraction

from helpers import JUNK, STRANGE, Draw, bent_by, bound, keeps_by, lies_in, ratio, replaced, sums, vector
from kinkmeasure.errors import BadNetwork
from kinkmeasure.flatten import flatten
from kinkmeasure.leaves import goal_rows, is_leaf_right, leaf_rows
from kinkmeasure.networks import units
from kinkmeasure.search import decide
from kinkmeasure.systems import check_none, summed
from references import goal_rows_by, is_leaf_by, leaf_rows_by

ONE_UNIT = (1, (sums([[1]], [-1]), ("bends", (True,)), sums([[1]], [0])))
SPAN = (vector(0), vector(3), ())
BOX = (bound([1, 0], 3), bound([-1, 0], 0))


def shifted(weight, offset):
    """A network of one unit whose value is the weight times the input plus the offset."""
    return (1, (sums([[weight]], [offset]), ("bends", (True,)), sums([[2]], [5])))


class RowsTest(unittest.TestCase):
    def assert_unit(self, network, region, phase, expected):
        handed = copy.deepcopy((network, region))
        rows = leaf_rows(network, region, (phase,))
        self.assertEqual(rows[2:], tuple(expected))
        self.assertEqual(rows, leaf_rows_by(network, region, (phase,)))
        self.assertEqual((network, region), handed)

    def test_example(self):
        self.assertEqual(leaf_rows(ONE_UNIT, SPAN, (None,))[2:],
                         ((((0, 1), (-1, 1)), (0, 1)), (((1, 1), (-1, 1)), (1, 1)), (((-2, 3), (1, 1)), (0, 1))))
        self.assertEqual(leaf_rows(ONE_UNIT, SPAN, (None,))[:2], BOX)

    def test_true(self):
        self.assert_unit(ONE_UNIT, SPAN, True, [bound([-1, 1], -1), bound([1, -1], 1), bound([-1, 0], -1)])

    def test_false(self):
        self.assert_unit(ONE_UNIT, SPAN, False, [bound([0, 1], 0), bound([0, -1], 0), bound([1, 0], 1)])

    def test_none_by_range(self):
        half = Fraction(1, 2)
        nothing = bound([0, -1], 0)
        for offset, last in [(0, bound([-1, 1], 0)), (2, bound([-1, 1], 2)), (-3, bound([0, 1], 0)),
                             (-7, bound([0, 1], 0)), (-2, bound([-Fraction(1, 3), 1], 0)),
                             (-half, bound([-Fraction(5, 6), 1], 0))]:
            self.assert_unit(shifted(1, offset), SPAN, None, [nothing, bound([1, -1], -offset), last])
        # -x + 1 lies between -2 and 1; 0 x is both ways 0.
        self.assert_unit(shifted(-1, 1), SPAN, None, [nothing, bound([-1, -1], -1), bound([Fraction(1, 3), 1], 1)])
        self.assert_unit(shifted(0, 0), SPAN, None, [nothing, nothing, bound([0, 1], 0)])

    def test_lows_above_highs(self):
        turned = (vector(3), vector(0), ())
        nothing = bound([0, -1], 0)
        # The least value of x - 1 is 2 now, and of -x + 1 it is 1; those of -x - 1 and x - 4 are -1.
        self.assert_unit(ONE_UNIT, turned, None, [nothing, bound([1, -1], 1), bound([-1, 1], -1)])
        self.assert_unit(shifted(-1, 1), turned, None, [nothing, bound([-1, -1], -1), bound([1, 1], 1)])
        self.assert_unit(shifted(-1, -1), turned, None, [nothing, bound([-1, -1], 1), bound([0, 1], 0)])
        self.assert_unit(shifted(1, -4), turned, None, [nothing, bound([1, -1], 4), bound([0, 1], 0)])

    def test_bounds_of_the_region(self):
        region = SPAN[:2] + ((bound([2], 5), bound([0], -1)),)
        self.assertEqual(leaf_rows(ONE_UNIT, region, (True,))[:4], BOX + (bound([2, 0], 5), bound([0, 0], -1)))
        # They play no part in the range.
        self.assertEqual(leaf_rows(ONE_UNIT, region, (None,))[4:], leaf_rows(ONE_UNIT, SPAN, (None,))[2:])

    def test_two_layers(self):
        # The second unit's value is 2 p - x; the input goes by the first bend.
        network = (1, (sums([[1], [1]], [-1, 0]), ("bends", (True, False)),
                       sums([[2, -1]], [0]), ("bends", (True,)), sums([[1], [-1]], [1, 2])))
        region = (vector(0), vector(2), ())
        rows = leaf_rows(network, region, (None, None))
        self.assertEqual(rows, (bound([1, 0, 0], 2), bound([-1, 0, 0], 0),
                                bound([0, -1, 0], 0), bound([1, -1, 0], 1), bound([Fraction(-1, 2), 1, 0], 0),
                                bound([0, 0, -1], 0), bound([-1, 2, -1], 0),
                                bound([Fraction(1, 2), -1, 1], 1)))
        # With the first unit at 0 the range ends at 0.
        self.assertEqual(leaf_rows(network, region, (False, None))[2:],
                         (bound([0, 1, 0], 0), bound([0, -1, 0], 0), bound([1, 0, 0], 1),
                          bound([0, 0, -1], 0), bound([-1, 2, -1], 0), bound([0, 0, 1], 0)))
        self.assertEqual(goal_rows(network, 2, (bound([1, 1], 4), bound([2, 0], 7), bound([0, 1], 0))),
                         (bound([0, 0, 0], 1), bound([0, 0, 2], 5), bound([0, 0, -1], -2)))

    def test_no_units(self):
        network = (1, (sums([[3], [1]], [1, 0]),))
        self.assertEqual(leaf_rows(network, SPAN, ()), (bound([1], 3), bound([-1], 0)))
        self.assertEqual(goal_rows(network, 0, (bound([2, -1], 6),)), (bound([5], 4),))

    def test_goals(self):
        self.assertEqual(goal_rows(shifted(1, -1), 1, (bound([3], 2),)), (bound([0, 6], -13),))
        self.assertEqual(goal_rows(ONE_UNIT, 1, ()), ())

    def test_drawn(self):
        draw = Draw(120)
        for _ in range(120):
            network = flatten(draw.network())
            region = draw.region(network[0])
            count = units(network)
            phases = draw.phases(count)
            self.assertEqual(leaf_rows(network, region, phases), leaf_rows_by(network, region, phases))
            clause = draw.system(len(network[1][-1][1]), draw.integer(0, 3))
            self.assertEqual(goal_rows(network, count, clause), goal_rows_by(network, clause))

    def test_points_keep_the_bounds(self):
        draw = Draw(121)
        tried = 0
        for _ in range(300):
            network = flatten(draw.network(draw.integer(1, 3)))
            lows = draw.vector(network[0])
            steps = [draw.integer(0, 4) for _ in lows]
            point = tuple(ratio(Fraction(*low) + step * Fraction(draw.integer(0, 2), 2))
                          for step, low in zip(steps, lows))
            region = (lows, tuple((a + step * b, b) for step, (a, b) in zip(steps, lows)),
                      draw.system(network[0], 1))
            if not lies_in(region, point):
                continue
            tried += 1
            values = bent_by(network, point)
            phases = tuple(draw.pick((None, value > 0 or (value == 0 and draw.chance(0.5)))) for value in values)
            given = tuple(ratio(max(value, 0)) for value in values)
            self.assertTrue(keeps_by(leaf_rows(network, region, phases), point + given))
        self.assertGreater(tried, 60)

    def test_no_network(self):
        for value in STRANGE + [(1, (("bends", (1,)),)), (0, ())]:
            for call in (lambda: leaf_rows(value, SPAN, (None,)), lambda: goal_rows(value, 1, ()),
                         lambda: is_leaf_right(value, SPAN, (None,), (), (), ())):
                with self.assertRaises(BadNetwork):
                    call()


class RightTest(unittest.TestCase):
    # p <= 2/3 x, so the output is at most 2.
    MOST = (vector(Fraction(2, 3), 0, 0, 0, 1), vector(1))
    CLAUSE = (bound([1], 2),)
    # x is at most 1/2, so x - 1 is not 0 or more.
    SHORT = (vector(0), vector(Fraction(1, 2)), ())
    NONE = (vector(1, 0, 0, 0, 1), vector(0))

    def assert_right(self, right, phases, multipliers, shares, region=SPAN, clause=CLAUSE, network=ONE_UNIT):
        kept = repr((network, region, phases, clause, multipliers, shares))
        self.assertIs(is_leaf_right(network, region, phases, clause, multipliers, shares), right,
                      (multipliers, shares))
        self.assertEqual(repr((network, region, phases, clause, multipliers, shares)), kept)

    def test_holds(self):
        self.assert_right(True, (None,), *self.MOST)
        self.assert_right(True, (None,), *self.MOST, clause=(bound([1], 3),))

    def test_no_point(self):
        self.assert_right(True, (True,), *self.NONE, region=self.SHORT)
        self.assert_right(True, (True,), self.NONE[0], (), region=self.SHORT, clause=())
        self.assert_right(True, (True,), self.NONE[0], vector(0, 0), region=self.SHORT,
                          clause=(bound([1], -9), bound([-1], -9)))

    def test_limit_too_great(self):
        small = Fraction(1, 10**30)
        self.assert_right(False, (None,), *self.MOST, clause=(bound([1], 2 - small),))
        touching = (vector(0), vector(1), ())
        self.assert_right(False, (True,), *self.NONE, region=touching)
        self.assert_right(True, (True,), *self.NONE, region=(vector(0), vector(1 - small), ()))

    def test_other_phases_or_region(self):
        for phases in ((True,), (False,)):
            self.assert_right(False, phases, *self.MOST)
        self.assert_right(False, (None,), *self.MOST, region=(vector(0), vector(4), ()))
        self.assert_right(False, (False,), *self.NONE, region=self.SHORT)
        self.assert_right(False, (None,), *self.NONE, region=self.SHORT)

    def test_multipliers(self):
        right, shares = self.MOST
        for wrong in [right[:-1], right + vector(0), (), vector(0, 0, 0, 0, 0), right[:4] + vector(2),
                      vector(Fraction(2, 3), -1, 0, 0, 1), vector(Fraction(2, 3), 0, -1, 0, 0), list(right),
                      (right,), ((4, 6),) + right[1:], right[:-1] + (1,), right[:-1] + ((True, 1),), None, "leaf", 0,
                      right[:-1] + ([1, 1],), vector(*[0] * 4) + ((1.0, 1),)]:
            self.assert_right(False, (None,), wrong, shares)

    def test_more_multipliers_that_do_not_change_the_vector(self):
        # x <= 3 and -x <= 0 together say 0 <= 3, which costs too much here, but not for a greater limit.
        loose = vector(Fraction(5, 3), 1, 0, 0, 1)
        self.assert_right(False, (None,), loose, vector(1))
        self.assert_right(True, (None,), loose, vector(1), clause=(bound([1], 5),))

    def test_shares(self):
        right, shares = self.MOST
        for wrong in [(), vector(1, 0), vector(0), vector(2), vector(Fraction(1, 2)), vector(-1), [(1, 1)], ((2, 2),),
                      (1,), (True,), ((1, True),), None, "1", 1, shares[0]]:
            self.assert_right(False, (None,), right, wrong)
        self.assert_right(False, (None,), tuple([(2 * a, b) for a, b in right]), vector(2))
        self.assert_right(False, (None,), vector(*[0] * 5), vector(0))

    def test_shares_between_0_and_1(self):
        # The vectors agree and the limit is below 0, but the shares are neither 0 nor 1 together.
        clause = (bound([0], 5), bound([0], 5))
        for share, right in [(0, True), (Fraction(1, 2), False), (Fraction(1, 4), False), (2, False), (1, True)]:
            self.assert_right(right, (True,), self.NONE[0], vector(share, 0), region=self.SHORT, clause=clause)
        for one, other, right in [(Fraction(1, 2), Fraction(1, 2), True), (Fraction(1, 2), Fraction(1, 3), False)]:
            self.assert_right(right, (True,), self.NONE[0], vector(one, other), region=self.SHORT, clause=clause)

    def test_shares_of_several_goals(self):
        # The output is at most 1 or at least 1: half of both says 0 <= 0.
        clause = (bound([1], 1), bound([-1], -1))
        half = Fraction(1, 2)
        self.assert_right(True, (None,), vector(*[0] * 5), vector(half, half), clause=clause)
        for shares in [vector(1, 0), vector(0, 1), vector(half, 0), vector(1, 1), vector(Fraction(3, 2), -half),
                       vector(Fraction(2, 3), Fraction(1, 3)), vector(half, half, 0), vector(half)]:
            self.assert_right(False, (None,), vector(*[0] * 5), shares, clause=clause)
        gap = (bound([1], 1), bound([-1], -1 - Fraction(1, 10**9)))
        self.assert_right(False, (None,), vector(*[0] * 5), vector(half, half), clause=gap)

    def test_any_values(self):
        right, shares = self.MOST
        for junk in JUNK:
            for value in list(replaced(right, junk)):
                self.assert_right(is_leaf_by(ONE_UNIT, SPAN, (None,), self.CLAUSE, value, shares), (None,), value, shares)
            for value in list(replaced(shares, junk)):
                self.assert_right(is_leaf_by(ONE_UNIT, SPAN, (None,), self.CLAUSE, right, value), (None,), right, value)

    def test_what_is_shown_of_drawn_networks(self):
        draw = Draw(122)
        shown = 0
        for _ in range(150):
            network = flatten(draw.network(draw.integer(1, 3)))
            region = draw.region(network[0])
            clause = draw.system(len(network[1][-1][1]), draw.integer(0, 2))
            answer = decide(network, region, (clause,))
            if answer[0] == "breaks" or answer[1][0][0] != "leaf":
                continue
            shown += 1
            _, multipliers, shares = answer[1][0]
            phases = (None,) * units(network)
            self.assert_right(True, phases, multipliers, shares, region, clause, network)
            self.assertTrue(is_leaf_by(network, region, phases, clause, multipliers, shares))
            for index in range(len(multipliers)):
                a, b = multipliers[index]
                value = multipliers[:index] + ((a + b, b),) + multipliers[index + 1:]
                right = is_leaf_by(network, region, phases, clause, value, shares)
                self.assert_right(right, phases, value, shares, region, clause, network)
        self.assertGreater(shown, 40)

    def test_agrees_with_the_systems(self):
        rows = leaf_rows(ONE_UNIT, self.SHORT, (True,))
        self.assertIsNone(check_none(2, rows, self.NONE[0]))
        rows = leaf_rows(ONE_UNIT, SPAN, (None,))
        self.assertEqual(summed(2, rows, self.MOST[0]), goal_rows(ONE_UNIT, 1, self.CLAUSE)[0])


if __name__ == "__main__":
    unittest.main()
