"""Points 600 to 602: networks that give the same on a region."""

import copy
import unittest
from fractions import Fraction

from helpers import JUNK, STRANGE, Draw, bound, lies_in, mixed_up, outputs_by, ratio, sums, vector
from kinkmeasure.alike import alike, judge_alike
from kinkmeasure.errors import BadJoin, BadNetwork, BadRegion
from kinkmeasure.flatten import flatten
from kinkmeasure.joining import difference
from kinkmeasure.judge import judge
from kinkmeasure.networks import out_size
from references import is_paper_by

# The absolute value of the input, by two units; the input itself; the greater one of it and 0.
ABSOLUTE = (1, (sums([[1], [-1]], [0, 0]), ("bends", (True, True)), sums([[1, 1]], [0])))
SAME = (1, ())
POSITIVE = (1, (("bends", (True,)),))
TWO = (2, (("greatest", ((0, 1),)),))
UP = (vector(0), vector(3), ())
SMALL = Fraction(1, 10**12)


class AlikeTest(unittest.TestCase):
    def assert_alike(self, kind, one, other, region):
        handed = copy.deepcopy((one, other, region))
        answer = alike(one, other, region)
        self.assertEqual((type(answer), len(answer), answer[0]), (tuple, 2, kind))
        if kind == "unlike":
            self.assertTrue(lies_in(region, answer[1]))
            self.assertNotEqual(outputs_by(one, answer[1]), outputs_by(other, answer[1]))
        else:
            self.assertIs(judge_alike(one, other, region, answer[1]), True)
            self.assert_papers(one, other, region, answer[1])
        self.assertEqual((one, other, region), handed)
        return answer[1]

    def assert_papers(self, one, other, region, papers):
        network = difference(one, other)
        outputs = out_size(network)
        self.assertEqual(len(papers), 2 * outputs)
        for place, paper in enumerate(papers):
            line = [0] * outputs
            line[place // 2] = -1 if place % 2 else 1
            self.assertTrue(is_paper_by(network, region, (bound(line, 0),), paper))

    def test_here_and_not_beyond(self):
        self.assert_alike("alike", ABSOLUTE, SAME, UP)
        self.assert_alike("alike", ABSOLUTE, POSITIVE, UP)
        self.assert_alike("unlike", ABSOLUTE, SAME, (vector(-SMALL), vector(3), ()))
        self.assert_alike("alike", POSITIVE, SAME, (vector(-5), vector(3), (bound([-1], 0),)))
        self.assert_alike("unlike", POSITIVE, SAME, (vector(-5), vector(3), (bound([-1], SMALL),)))
        self.assert_alike("alike", TWO, (2, (sums([[0, 1]], [0]),)), (vector(0, 1), vector(1, 2), ()))
        self.assert_alike("unlike", TWO, (2, (sums([[0, 1]], [0]),)), (vector(0, 1), vector(1 + SMALL, 2), ()))

    def test_least_difference(self):
        near = (1, (sums([[1]], [SMALL]),))
        self.assert_alike("unlike", SAME, near, UP)
        self.assert_alike("unlike", near, SAME, UP)
        self.assert_alike("unlike", (2, ()), (2, (sums([[1, 0], [0, 1]], [0, -SMALL]),)), (vector(0, 0), vector(1, 1), ()))

    def test_no_point(self):
        self.assert_alike("alike", ABSOLUTE, (1, (sums([[7]], [3]),)), (vector(1), vector(0), ()))
        self.assert_alike("alike", ABSOLUTE, (1, (sums([[7]], [3]),)), (vector(0), vector(1), (bound([0], -1),)))

    def test_one_point(self):
        self.assert_alike("alike", ABSOLUTE, (1, (sums([[7]], [-12]),)), (vector(2), vector(2), ()))
        self.assert_alike("unlike", ABSOLUTE, (1, (sums([[7]], [-11]),)), (vector(2), vector(2), ()))

    def test_flattened(self):
        draw = Draw(160)
        for _ in range(60):
            network = draw.network(draw.integer(1, 3))
            region = draw.region(network[0])
            self.assert_alike("alike", network, flatten(network), region)
            self.assert_alike("alike", flatten(network), network, region)

    def test_mixed_up_and_changed(self):
        draw = Draw(161)
        found = []
        for _ in range(40):
            network = draw.deep(draw.integer(1, 2), [draw.integer(2, 4)] * draw.integer(1, 2), draw.integer(1, 2))
            other = mixed_up(network, draw)
            region = (vector(*[-1] * network[0]), vector(*[1] * network[0]), draw.system(network[0], 1))
            self.assert_alike("alike", network, other, region)
            size, layers = other
            last = layers[-1]
            row = (ratio(Fraction(*last[1][0][0]) + SMALL),) + last[1][0][1:]
            changed = (size, layers[:-1] + (("sums", (row,) + last[1][1:], last[2]),))
            answer = alike(network, changed, region)
            found.append(answer[0])
            self.assert_alike(answer[0], network, changed, region)
        self.assertIn("alike", found)
        self.assertGreater(found.count("unlike"), 15)


class JudgeTest(unittest.TestCase):
    WIDE = (1, (sums([[1], [-1]], [0, 0]), ("bends", (True, True)), sums([[1, 1], [1, -1]], [0, 0])))
    PLAIN = (1, (sums([[1], [1]], [0, 0]),))

    def setUp(self):
        self.papers = alike(self.WIDE, self.PLAIN, UP)[1]

    def assert_judged(self, right, papers, one=None, other=None, region=UP):
        one = self.WIDE if one is None else one
        other = self.PLAIN if other is None else other
        kept = repr((one, other, region, papers))
        self.assertIs(judge_alike(one, other, region, papers), right, papers)
        self.assertEqual(repr((one, other, region, papers)), kept)

    def test_papers(self):
        self.assertEqual(len(self.papers), 4)
        self.assert_judged(True, self.papers)
        claim = tuple((bound(line, 0),) for line in ([1, 0], [-1, 0], [0, 1], [0, -1]))
        self.assertIs(judge(difference(self.WIDE, self.PLAIN), UP, claim, self.papers), True)

    def test_left_out_or_more(self):
        for papers in [(), self.papers[:3], self.papers[1:], self.papers + self.papers[:1], (self.papers,),
                       list(self.papers)]:
            self.assert_judged(False, papers)

    def test_exchanged(self):
        for at in range(4):
            for to in range(4):
                papers = list(self.papers)
                papers[at] = self.papers[to]
                # The second output needs no units, but its papers show nothing of the first one.
                self.assert_judged(self.papers[at] == self.papers[to], tuple(papers))

    def test_other_networks_and_regions(self):
        self.assert_judged(False, self.papers, region=(vector(-1), vector(3), ()))
        self.assert_judged(False, self.papers, other=(1, (sums([[1], [1]], [0, SMALL]),)))
        self.assert_judged(False, self.papers, one=self.PLAIN, other=self.WIDE)

    def test_any_value(self):
        for value in JUNK + [("alike", self.papers), alike(self.WIDE, self.PLAIN, UP)]:
            self.assert_judged(False, value)


class ErrorTest(unittest.TestCase):
    def assert_raised(self, error, one, other, region):
        with self.assertRaises(error) as caught:
            alike(one, other, region)
        with self.assertRaises(error):
            judge_alike(one, other, region, None)
        return caught.exception

    def test_networks_first(self):
        for value in STRANGE + [(0, ()), (2, (("greatest", ((2,),)),))]:
            self.assert_raised(BadNetwork, value, None, None)
            self.assert_raised(BadNetwork, ABSOLUTE, value, None)
        raised = self.assert_raised(BadNetwork, (0, ()), (1, (None,)), None)
        self.assertEqual((raised.layer, raised.reason), (-1, "inputs"))
        raised = self.assert_raised(BadNetwork, SAME, (1, (None,)), None)
        self.assertEqual((raised.layer, raised.reason), (0, "form"))

    def test_then_the_shape(self):
        for one, other in [(SAME, (2, ())), (TWO, SAME), ((2, ()), TWO), (TWO, (3, (("greatest", ((0,),)),)))]:
            self.assert_raised(BadJoin, one, other, None)
            self.assert_raised(BadJoin, other, one, UP)

    def test_then_the_region(self):
        for value in STRANGE + [(vector(0, 0), vector(1, 1), ()), UP[:2]]:
            self.assert_raised(BadRegion, SAME, POSITIVE, value)


if __name__ == "__main__":
    unittest.main()
