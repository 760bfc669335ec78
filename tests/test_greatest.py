"""Points 700 to 704: greatest and least values of a form of the outputs."""

import copy
import unittest
from fractions import Fraction

from helpers import JUNK, STRANGE, Draw, bound, fraction, fractions, lies_in, outputs_by, ratio, replaced, sums, vector
from kinkmeasure.errors import BadNetwork, BadRegion, BadVector
from kinkmeasure.flatten import flatten
from kinkmeasure.greatest import greatest, judge_greatest, judge_least, least
from references import is_paper_by

# A tent between 0 and 2, 1 high at 1, and the contrary of the input.
TENT = (1, (sums([[1], [1]], [0, -1]), ("bends", (True, True)), sums([[1, -2], [-1, 0]], [0, 0])))
SPAN = (vector(0), vector(2), ())
EMPTY = (vector(1), vector(0), ())
SMALL = Fraction(1, 10**15)


def form_at(network, line, point):
    """The value of a form of the outputs at a point."""
    return ratio(sum(w * x for w, x in zip(fractions(line), fractions(outputs_by(network, point)))))


class ValueTest(unittest.TestCase):
    def assert_values(self, network, region, line, most=None, fewest=None):
        handed = copy.deepcopy((network, region, line))
        found = []
        for function, judge, word, sign, expected in [(greatest, judge_greatest, "greatest", 1, most),
                                                      (least, judge_least, "least", -1, fewest)]:
            answer = function(network, region, line)
            self.assertIs(judge(network, region, line, answer), True)
            if answer[0] == "empty":
                self.assertEqual(len(answer), 2)
                self.assertTrue(is_paper_by(network, region, (), answer[1]))
                found.append("empty")
                continue
            self.assertEqual((answer[0], len(answer)), (word, 4))
            _, value, point, paper = answer
            self.assertTrue(lies_in(region, point))
            self.assertEqual(form_at(network, line, point), value)
            signed = tuple((sign * a, b) for a, b in line)
            self.assertTrue(is_paper_by(network, region, ((signed, (sign * value[0], value[1])),), paper))
            if expected is not None:
                self.assertEqual(value, ratio(expected))
            found.append(fraction(value))
        self.assertEqual((network, region, line), handed)
        return found

    def test_tent(self):
        self.assert_values(TENT, SPAN, vector(1, 0), 1, 0)
        self.assert_values(TENT, SPAN, vector(-2, 0), 0, -2)
        self.assert_values(TENT, SPAN, vector(0, 3), 0, -6)
        self.assert_values(TENT, SPAN, vector(1, Fraction(-1, 2)), Fraction(3, 2), 0)
        self.assert_values(TENT, (vector(-1), vector(3), ()), vector(1, 0), 1, -1)
        self.assert_values(TENT, (vector(Fraction(3, 2)), vector(2), ()), vector(1, 0), Fraction(1, 2), 0)
        self.assert_values(TENT, SPAN[:2] + ((bound([3], 1),),), vector(1, 0), Fraction(1, 3), 0)

    def test_vector_of_zeros(self):
        self.assert_values(TENT, SPAN, vector(0, 0), 0, 0)

    def test_one_point(self):
        third = Fraction(1, 3)
        self.assert_values(TENT, (vector(third), vector(third), ()), vector(2, 5), 2 * third - 5 * third, -third * 3)

    def test_no_point(self):
        for region in (EMPTY, SPAN[:2] + ((bound([1], -SMALL),),)):
            self.assertEqual(self.assert_values(TENT, region, vector(1, 0)), ["empty", "empty"])
        self.assert_values(TENT, SPAN[:2] + ((bound([1], 0),),), vector(1, 0), 0, 0)

    def test_no_units(self):
        network = (2, (sums([[1, 2], [0, 1]], [5, 0]),))
        region = (vector(-1, 0), vector(1, 3), (bound([1, 1], 3),))
        self.assert_values(network, region, vector(1, 1), 14, 4)
        self.assert_values(network, region, vector(0, -1), 0, -3)

    def test_saw(self):
        fold = sums([[2, -4]], [0])
        layers = []
        for _ in range(4):
            layers.extend([sums([[1], [1]], [0, Fraction(-1, 2)]), ("bends", (True, True)), fold])
        network = flatten((1, tuple(layers)))
        self.assert_values(network, (vector(0), vector(1), ()), vector(1), 1, 0)
        self.assert_values(network, (vector(0), vector(Fraction(1, 17)), ()), vector(3), Fraction(48, 17), 0)

    def test_drawn(self):
        draw = Draw(170)
        kinds = []
        for _ in range(150):
            network = flatten(draw.network(draw.integer(1, 3)))
            region = draw.region(network[0])
            line = draw.vector(len(network[1][-1][1]))
            most, fewest = self.assert_values(network, region, line)
            kinds.append(most == "empty")
            if most == "empty":
                continue
            self.assertLessEqual(fewest, most)
            for _ in range(10):
                point = draw.point(network[0])
                if lies_in(region, point):
                    self.assertTrue(fewest <= fraction(form_at(network, line, point)) <= most)
            negative = tuple((-a, b) for a, b in line)
            self.assertEqual(self.assert_values(network, region, negative), [-fewest, -most])
        self.assertGreater(kinds.count(True), 20)
        self.assertGreater(kinds.count(False), 50)

    def test_more_units(self):
        draw = Draw(171)
        for size, widths in [(1, [12]), (2, [6, 6]), (3, [8]), (3, [5, 5])]:
            network = draw.deep(size, widths, 2)
            region = (vector(*[-1] * size), vector(*[1] * size), draw.system(size, 1))
            self.assert_values(network, region, vector(1, -1))


    def test_units_that_count_both_ways(self):
        # Here it matters for both cases of a unit what is known of its value then.
        for seed in (27, 112, 246, 282, 309, 390):
            draw = Draw(seed)
            widths = draw.pick([[3, 3], [2, 2, 2], [4, 2], [2, 3, 2], [3, 1, 2]])
            size = draw.integer(1, 2)
            network = draw.deep(size, widths)
            self.assert_values(network, (vector(*[-3] * size), vector(*[3] * size), ()), vector(1))


class JudgeTest(unittest.TestCase):
    LINE = vector(1, 0)

    def setUp(self):
        self.answer = greatest(TENT, SPAN, self.LINE)
        self.low = least(TENT, SPAN, self.LINE)

    def assert_judged(self, right, answer, judge=judge_greatest, network=TENT, region=SPAN, line=LINE):
        kept = repr((network, region, line, answer))
        self.assertIs(judge(network, region, line, answer), right, answer)
        self.assertEqual(repr((network, region, line, answer)), kept)

    def test_right(self):
        self.assert_judged(True, self.answer)
        self.assert_judged(True, self.low, judge_least)
        self.assert_judged(False, self.low)
        self.assert_judged(False, self.answer, judge_least)

    def test_value_a_little_off(self):
        for change in (SMALL, -SMALL, 1, -1):
            for answer, judge in ((self.answer, judge_greatest), (self.low, judge_least)):
                value = ratio(fraction(answer[1]) + change)
                self.assert_judged(False, (answer[0], value) + answer[2:], judge)
        # The point of a lesser value, and the value there.
        for x in (Fraction(1, 2), 0, 2, 1 - SMALL):
            point = vector(x)
            self.assert_judged(False, self.answer[:2] + (point,) + self.answer[3:])
            self.assert_judged(False, ("greatest", form_at(TENT, self.LINE, point), point, self.answer[3]))

    def test_points(self):
        for point in [vector(1, 1), (), vector(3), [(1, 1)], ((2, 2),), (1,), None, vector(-1)]:
            self.assert_judged(False, self.answer[:2] + (point,) + self.answer[3:])
        self.assert_judged(False, self.answer, region=(vector(0), vector(Fraction(1, 2)), ()))

    def test_not_in_lowest_terms(self):
        for value in [(2, 2), (-1, -1), 1, (1, 1.0), (True, 1), (1, True), [1, 1], None, "1", (1, 1, 1)]:
            self.assert_judged(False, ("greatest", value) + self.answer[2:])

    def test_papers(self):
        for paper in [None, (), self.low[3], ("leaf", (), ()), (self.answer[3],), list(self.answer[3])]:
            self.assert_judged(False, self.answer[:3] + (paper,))

    def test_negative_paper_for_least(self):
        # The paper of the least value is that of the negative vector.
        self.assertTrue(is_paper_by(TENT, SPAN, (bound([-1, 0], 0),), self.low[3]))

    def test_empty(self):
        paper = greatest(TENT, EMPTY, self.LINE)[1]
        for judge in (judge_greatest, judge_least):
            self.assert_judged(True, ("empty", paper), judge, region=EMPTY)
            for wrong in [("empty", paper), ("empty", self.answer[3]), ("empty",)]:
                self.assert_judged(False, wrong, judge)
            for wrong in [("empty",), ("empty", paper, paper), ("empty", None), ("none", paper), paper, ["empty", paper]]:
                self.assert_judged(False, wrong, judge, region=EMPTY)

    def test_any_value(self):
        for value in JUNK + [list(self.answer), self.answer + (None,), self.answer[:3], (self.answer,)]:
            self.assert_judged(False, value)
            self.assert_judged(False, value, judge_least)

    def test_one_place_replaced(self):
        for junk in JUNK:
            for answer in replaced(self.answer, junk):
                right = judge_greatest(TENT, SPAN, self.LINE, answer)
                if right:
                    self.assertEqual(answer[:3], self.answer[:3])
                    self.assertTrue(is_paper_by(TENT, SPAN, ((self.LINE, answer[1]),), answer[3]))


class ErrorTest(unittest.TestCase):
    def test_order(self):
        calls = [greatest, least, lambda *handed: judge_greatest(*handed, None), lambda *handed: judge_least(*handed, None)]
        for call in calls:
            for value in STRANGE + [(1, ()), (2, (("greatest", ((0, 1),)),))]:
                with self.assertRaises(BadNetwork):
                    call(value, None, None)
            for value in STRANGE + [(vector(0, 0), vector(1, 1), ())]:
                with self.assertRaises(BadRegion):
                    call(TENT, value, None)
            for value in STRANGE + [vector(1), vector(1, 0, 0), list(vector(1, 0)), ((2, 2), (0, 1)), (1, 0)]:
                with self.assertRaises(BadVector):
                    call(TENT, SPAN, value)
                with self.assertRaises(BadVector):
                    call(TENT, EMPTY, value)


if __name__ == "__main__":
    unittest.main()
