"""Points 705 and 706: how far two networks are apart."""

import copy
import unittest
from fractions import Fraction

from helpers import JUNK, STRANGE, Draw, bound, fraction, fractions, lies_in, outputs_by, ratio, replaced, sums, vector
from kinkmeasure.alike import alike
from kinkmeasure.distance import distance, judge_distance
from kinkmeasure.errors import BadJoin, BadNetwork, BadRegion
from kinkmeasure.flatten import flatten
from kinkmeasure.joining import difference
from kinkmeasure.networks import out_size
from references import is_paper_by

ABSOLUTE = (1, (sums([[1], [-1]], [0, 0]), ("bends", (True, True)), sums([[1, 1]], [0])))
SAME = (1, ())
EMPTY = (vector(1), vector(0), ())
SPAN = (vector(-2), vector(3), ())
SMALL = Fraction(1, 10**15)


def apart(one, other, point):
    """The absolute differences of the outputs at a point."""
    pairs = zip(fractions(outputs_by(one, point)), fractions(outputs_by(other, point)))
    return [abs(x - y) for x, y in pairs]


class DistanceTest(unittest.TestCase):
    def assert_distance(self, one, other, region, expected=None):
        handed = copy.deepcopy((one, other, region))
        answer = distance(one, other, region)
        self.assertEqual((one, other, region), handed)
        self.assertIs(judge_distance(one, other, region, answer), True)
        network = difference(one, other)
        if answer[0] == "empty":
            self.assertEqual(len(answer), 2)
            self.assertTrue(is_paper_by(network, region, (), answer[1]))
            return "empty"
        self.assertEqual((answer[0], len(answer)), ("distance", 4))
        _, value, point, papers = answer
        self.assertTrue(lies_in(region, point))
        self.assertIn(fraction(value), apart(one, other, point))
        outputs = out_size(network)
        self.assertEqual(len(papers), 2 * outputs)
        for place, paper in enumerate(papers):
            line = [0] * outputs
            line[place // 2] = -1 if place % 2 else 1
            self.assertTrue(is_paper_by(network, region, (bound(line, fraction(value)),), paper))
        if expected is not None:
            self.assertEqual(value, ratio(expected))
        return fraction(value)

    def test_worked(self):
        self.assert_distance(ABSOLUTE, SAME, SPAN, 4)
        self.assert_distance(SAME, ABSOLUTE, SPAN, 4)
        self.assert_distance(ABSOLUTE, (1, (sums([[0]], [0]),)), SPAN, 3)
        self.assert_distance(ABSOLUTE, (1, (sums([[0]], [2]),)), SPAN, 2)
        self.assert_distance(ABSOLUTE, (1, (sums([[0]], [1]),)), SPAN, 2)
        one = (1, (sums([[1], [0]], [0, 5]),))
        self.assert_distance(one, (1, (sums([[1], [1]], [1, 5]),)), SPAN, 3)
        self.assert_distance(one, (1, (sums([[1], [1]], [4, 5]),)), SPAN, 4)

    def test_alike(self):
        self.assert_distance(ABSOLUTE, SAME, (vector(0), vector(3), ()), 0)
        self.assert_distance(ABSOLUTE, SAME, (vector(-SMALL), vector(3), ()), 2 * SMALL)
        self.assert_distance(ABSOLUTE, ABSOLUTE, SPAN, 0)

    def test_one_point_and_no_point(self):
        self.assert_distance(ABSOLUTE, SAME, (vector(-1), vector(-1), ()), 2)
        self.assertEqual(self.assert_distance(ABSOLUTE, SAME, EMPTY), "empty")
        self.assertEqual(self.assert_distance(ABSOLUTE, SAME, SPAN[:2] + ((bound([0], -1),),)), "empty")

    def test_drawn(self):
        draw = Draw(180)
        zeros = 0
        for _ in range(150):
            size = draw.integer(1, 3)
            one = draw.network(size)
            other = draw.network(size) if draw.chance(0.7) else flatten(one)
            if out_size(one) != out_size(other):
                continue
            region = draw.region(size)
            value = self.assert_distance(one, other, region)
            if value == "empty":
                continue
            self.assertEqual(value == 0, alike(one, other, region)[0] == "alike")
            zeros += value == 0
            self.assertEqual(self.assert_distance(other, one, region), value)
            for _ in range(5):
                point = draw.point(size)
                if lies_in(region, point):
                    self.assertLessEqual(max(apart(one, other, point)), value)
        self.assertGreater(zeros, 10)


class JudgeTest(unittest.TestCase):
    OTHER = (1, (sums([[Fraction(1, 2)]], [0]),))

    def setUp(self):
        # 3 at -2, and 3/2 at 3.
        self.answer = distance(ABSOLUTE, self.OTHER, SPAN)

    def assert_judged(self, right, answer, one=ABSOLUTE, other=OTHER, region=SPAN):
        kept = repr((one, other, region, answer))
        self.assertIs(judge_distance(one, other, region, answer), right, answer)
        self.assertEqual(repr((one, other, region, answer)), kept)

    def test_right(self):
        self.assertEqual(self.answer[1:3], ((3, 1), vector(-2)))
        self.assert_judged(True, self.answer)

    def test_changed(self):
        word, value, point, papers = self.answer
        for other in [(4, 1), (3, 2), (-3, 1), ratio(3 + SMALL), ratio(3 - SMALL), (6, 2), 3, None, [3, 1], (3, True)]:
            self.assert_judged(False, (word, other, point, papers))
        for other in [vector(-1), vector(3), vector(2), vector(-3), vector(-2, 0), (), None, [(-2, 1)], (-2,), ((-4, 2),)]:
            self.assert_judged(False, (word, value, other, papers))
        self.assert_judged(False, (word, (3, 2), vector(3), papers))
        for other in [(), papers[:1], papers[1:], papers + papers, (papers[1], papers[0]), list(papers), None, papers[0],
                      (papers[0], papers[0]), (papers[0], None)]:
            self.assert_judged(False, (word, value, point, other))
        for other in [self.answer[:3], self.answer + (None,), list(self.answer), ("greatest",) + self.answer[1:], (), None]:
            self.assert_judged(False, other)

    def test_point_outside(self):
        narrow = (vector(-1), vector(3), ())
        self.assert_judged(False, self.answer, region=narrow)
        wide = (vector(-3), vector(3), ())
        self.assert_judged(False, self.answer, region=wide)
        # At 6 the outputs differ by 3, too, but 6 is not in the region.
        self.assert_judged(False, self.answer[:2] + (vector(6),) + self.answer[3:])

    def test_empty(self):
        paper = distance(ABSOLUTE, self.OTHER, EMPTY)[1]
        self.assert_judged(True, ("empty", paper), region=EMPTY)
        self.assert_judged(False, ("empty", paper))
        for wrong in [("empty",), ("empty", paper, paper), ("empty", None), ("empty", (paper,)), paper]:
            self.assert_judged(False, wrong, region=EMPTY)

    def test_any_value(self):
        for value in JUNK:
            self.assert_judged(False, value)
        for junk in JUNK:
            for answer in replaced(self.answer, junk):
                if judge_distance(ABSOLUTE, self.OTHER, SPAN, answer):
                    self.assertEqual(answer[:3], self.answer[:3])


class ErrorTest(unittest.TestCase):
    def test_order(self):
        for call in (distance, lambda *handed: judge_distance(*handed, None)):
            for value in STRANGE + [(0, ())]:
                with self.assertRaises(BadNetwork):
                    call(value, None, None)
                with self.assertRaises(BadNetwork):
                    call(SAME, value, None)
            for other in [(2, ()), (1, (sums([[1], [1]], [0, 0]),))]:
                with self.assertRaises(BadJoin):
                    call(SAME, other, None)
            for value in STRANGE + [(vector(0, 0), vector(1, 1), ())]:
                with self.assertRaises(BadRegion):
                    call(SAME, ABSOLUTE, value)


if __name__ == "__main__":
    unittest.main()
