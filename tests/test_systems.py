"""Points 300 to 302: bounds, systems, multipliers and what they show."""

import copy
import unittest
from fractions import Fraction

from helpers import JUNK, STRANGE, Draw, bound, fraction, fractions, ratio, replaced, vector
from kinkmeasure import systems
from kinkmeasure.errors import BadPaper, BadSystem

# x <= 3/2 twice over, -x <= 0, and y is free.
ROWS = (bound([2, 0], 3), bound([-1, 0], 0), bound([2, 0], 3))
# x + y <= 1, -x <= -1, -y <= -1/2: no point keeps them all.
NONE = (bound([1, 1], 1), bound([-1, 0], -1), bound([0, -1], Fraction(-1, 2)))


class FormTest(unittest.TestCase):
    def test_bounds(self):
        draw = Draw(50)
        for size in range(4):
            value = (draw.vector(size), draw.ratio())
            self.assertIs(systems.is_bound(value), True)
            for other in range(5):
                self.assertIs(systems.is_bound(value, size=other), size == other)

    def test_no_bounds(self):
        one = (1, 1)
        for value in STRANGE + [(), (one,), (one, one), ((one,), one, one), [(one,), one], ([one], one),
                                ((one,), [1, 1]), ((one,), (2, 4)), ((one,), None), ((one,), 1), ((one,), True),
                                (((2, 4),), one), ((1,), one), (((True, 1),), one), (None, one), ((one,), (one,)),
                                ((one,), (True, 1)), (((one,),), one)]:
            self.assertIs(systems.is_bound(value), False, value)
            for size in range(3):
                self.assertIs(systems.is_bound(value, size=size), False, value)

    def test_systems(self):
        draw = Draw(51)
        for size in range(4):
            for many in range(4):
                rows = tuple((draw.vector(size), draw.ratio()) for _ in range(many))
                self.assertIsNone(systems.check_system(size, rows))
                for other in range(5):
                    if other != size and many > 0:
                        self.assert_no_system(other, rows)

    def assert_no_system(self, size, rows):
        kept = repr(rows)
        for multipliers in ((), None, vector(*[0] * 3)):
            for call in (lambda: systems.check_system(size, rows),
                         lambda: systems.check_none(size, rows, multipliers),
                         lambda: systems.check_limit(size, rows, bound([1, 0], 1), multipliers),
                         lambda: systems.check_limit(size, rows, None, multipliers)):
                with self.assertRaises(BadSystem):
                    call()
        self.assertEqual(repr(rows), kept)

    def test_no_systems(self):
        for rows in STRANGE + [list(ROWS), (ROWS[0], None), (ROWS[0], bound([1], 1)), (bound([1, 2, 3], 1),),
                               ROWS[0], (ROWS,), (list(ROWS[0]),), 0, ((vector(1, 2), (2, 4)),)]:
            self.assert_no_system(2, rows)
        for size in (-1, None, True, 2.0, "2", (2,)):
            self.assert_no_system(size, ())
        self.assert_no_system(1, ROWS)

    def test_one_place_replaced(self):
        for junk in JUNK:
            for rows in replaced(ROWS, junk):
                try:
                    systems.check_system(2, rows)
                except BadSystem:
                    continue
                self.assertIsInstance(rows, tuple)
                for vector_part, limit in rows:
                    self.assertEqual(len(fractions(vector_part)), 2)
                    fraction(limit)

    def test_multipliers(self):
        self.assertIs(systems.are_multipliers((), count=0), True)
        self.assertIs(systems.are_multipliers(vector(0, 1), count=2), True)
        self.assertIs(systems.are_multipliers(vector(0, Fraction(5, 3), 10**700), count=3), True)
        self.assertIs(systems.are_multipliers(vector(0, 1), count=1), False)
        self.assertIs(systems.are_multipliers(vector(0, 1), count=3), False)
        self.assertIs(systems.are_multipliers(vector(0, -1), count=2), False)
        self.assertIs(systems.are_multipliers(vector(Fraction(-1, 10**9), 1), count=2), False)
        for value in STRANGE + [((2, 4), (1, 1)), [(1, 1), (1, 1)], (1, 1), ((True, 1), (1, 1)), ((1, 1), None), 0]:
            for count in range(3):
                self.assertIs(systems.are_multipliers(value, count=count), False, value)

    def test_sums(self):
        draw = Draw(52)
        for size in range(4):
            for many in range(4):
                rows = tuple((draw.vector(size), draw.ratio()) for _ in range(many))
                shares = tuple(ratio(abs(fraction(x))) for x in draw.vector(many))
                vectors = [sum((fraction(m) * fraction(row[0][k]) for m, row in zip(shares, rows)), Fraction(0))
                           for k in range(size)]
                limit = sum((fraction(m) * fraction(row[1]) for m, row in zip(shares, rows)), Fraction(0))
                self.assertEqual(systems.summed(size, rows, shares), (vector(*vectors), ratio(limit)))
        self.assertEqual(systems.summed(2, (), ()), bound([0, 0], 0))
        self.assertEqual(systems.summed(0, (((), (3, 1)),), vector(2)), ((), (6, 1)))


class ShownTest(unittest.TestCase):
    def assert_none_shown(self, size, rows, shares, right):
        kept = copy.deepcopy((rows, shares))
        if right:
            self.assertIsNone(systems.check_none(size, rows, shares))
        else:
            with self.assertRaises(BadPaper):
                systems.check_none(size, rows, shares)
        self.assertEqual((rows, shares), kept)

    def assert_limit_shown(self, size, rows, shown, shares, right):
        if right:
            self.assertIsNone(systems.check_limit(size, rows, shown, shares))
        else:
            with self.assertRaises(BadPaper):
                systems.check_limit(size, rows, shown, shares)

    def test_none(self):
        for shares, right in [((1, 1, 1), True), ((2, 2, 2), True), ((Fraction(1, 9),) * 3, True), ((0, 0, 0), False),
                              ((1, 1, 0), False), ((1, 1, 2), False), ((2, 1, 1), False), ((-1, -1, -1), False),
                              ((1, 1, Fraction(999, 1000)), False), ((1, Fraction(1001, 1000), 1), False),
                              ((1, 1), False), ((1, 1, 1, 0), False), ((), False)]:
            self.assert_none_shown(2, NONE, vector(*shares), right)

    def test_none_with_a_limit_that_is_not_below_0(self):
        rows = (bound([1], 0), bound([-1], 0), bound([1], Fraction(-1, 100)))
        self.assert_none_shown(1, rows, vector(1, 1, 0), False)
        self.assert_none_shown(1, rows, vector(0, 1, 1), True)
        self.assert_none_shown(1, (bound([1], 0), bound([-1], 1)), vector(1, 1), False)

    def test_none_for_any_value(self):
        for shares in STRANGE + [0, (1, 1, 1), [(1, 1)] * 3, ((1, 1), (1, 1), None), ((2, 2),) * 3, vector(1, 1, 1)[0]]:
            self.assert_none_shown(2, NONE, shares, False)
        for junk in JUNK:
            for shares in replaced(vector(1, 1, 1), junk):
                self.assert_none_shown(2, NONE, shares, repr(shares) == repr(vector(1, 1, 1)))

    def test_limits(self):
        shown = bound([1, 0], Fraction(3, 2))
        half = Fraction(1, 2)
        for shares, right in [((half, 0, 0), True), ((0, 0, half), True), ((Fraction(1, 4), 0, Fraction(1, 4)), True),
                              ((1, 1, 0), False), ((1, 0, 0), False), ((0, 0, 0), False), ((half, 0), False),
                              ((half, 0, 0, 0), False), ((Fraction(501, 1000), 0, 0), False), ((-half, 0, 1), False)]:
            self.assert_limit_shown(2, ROWS, shown, vector(*shares), right)
        for limit, right in [(2, True), (Fraction(3, 2), True), (Fraction(1499, 1000), False), (-5, False)]:
            self.assert_limit_shown(2, ROWS, bound([1, 0], limit), vector(half, 0, 0), right)
        self.assert_limit_shown(2, ROWS, bound([0, 0], 0), vector(0, 0, 0), True)
        self.assert_limit_shown(2, ROWS, bound([0, 0], 5), vector(0, 0, 0), True)
        self.assert_limit_shown(2, ROWS, bound([0, 0], -1), vector(0, 0, 0), False)
        self.assert_limit_shown(2, ROWS, bound([0, 1], 5), vector(half, 0, 0), False)
        # Multipliers that show that there is no point show a bound only if its vector is theirs.
        self.assert_limit_shown(2, NONE, bound([0, 0], 0), vector(1, 1, 1), True)
        self.assert_limit_shown(2, NONE, bound([1, 0], 100), vector(1, 1, 1), False)

    def test_limits_for_any_value(self):
        shown = bound([1, 0], Fraction(3, 2))
        for shares in STRANGE + [0, (1, 0, 0), [(1, 2), (0, 1), (0, 1)], ((1, 2), (0, 1), (0, 2))]:
            self.assert_limit_shown(2, ROWS, shown, shares, False)

    def test_no_bound_to_show(self):
        for shown in STRANGE + [bound([1], 1), bound([1, 2, 3], 1), (vector(1, 0), (2, 4)), vector(1, 0), (), 0]:
            for shares in (vector(Fraction(1, 2), 0, 0), None, ()):
                with self.assertRaises(BadSystem):
                    systems.check_limit(2, ROWS, shown, shares)

    def test_without_bounds_and_variables(self):
        self.assert_none_shown(2, (), (), False)
        self.assert_none_shown(0, (), (), False)
        self.assert_none_shown(0, (((), (-1, 3)),), vector(1), True)
        self.assert_none_shown(0, (((), (-1, 3)),), vector(0), False)
        self.assert_none_shown(0, (((), (0, 1)),), vector(1), False)
        self.assert_limit_shown(1, (), bound([0], 0), (), True)
        self.assert_limit_shown(1, (), bound([1], 0), (), False)
        self.assert_limit_shown(0, (((), (1, 1)),), ((), (1, 1)), vector(1), True)
        self.assert_limit_shown(0, (((), (1, 1)),), ((), (0, 1)), vector(1), False)


if __name__ == "__main__":
    unittest.main()
