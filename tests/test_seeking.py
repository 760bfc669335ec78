"""Points 911 and 912: boxes around regions, and the search for a warrant."""

import copy
import unittest
from fractions import Fraction
from itertools import product

from helpers import STRANGE, Draw, are_run, bound, fraction, fractions, lies_in, matrix, ratio, stepped_by, sums, vector
from kinkmeasure.errors import BadCount, BadLoop, BadNetwork, BadRegion
from kinkmeasure.keeping import judge_stays, judge_warrant, stays, warrant
from kinkmeasure.seeking import least_box, next_box, seek
from test_loops import WIDE, straight

HALF = Fraction(1, 2)
ONE_UNIT = (1, (sums([[1]], [-1]), ("bends", (True,)), sums([[-1]], [0])))
# The state keeps its value up to 1, and is cut to 1 above; the drift is between 0 and 1/2.
LOOP = (ONE_UNIT, matrix([1]), matrix([1]), vector(0), vector(HALF))
COUNTER = (ONE_UNIT, matrix([1]), matrix([0]), vector(1), vector(2))
HALVING = ((1, (sums([[1]], [0]),)), matrix([0]), matrix([HALF]), vector(0), vector(1))
# A quarter turn in the plane.
TURN = ((2, (sums([[0, 0]], [0]),)), matrix([0, -1], [1, 0]), matrix([0], [0]), vector(0, 0), vector(0, 0))
NONE = (vector(1), vector(0), ())
SMALL = Fraction(1, 10**12)


def span(low, high):
    return (vector(low), vector(high), ())


class BoxTest(unittest.TestCase):
    def test_least_box(self):
        loop = straight(2)
        box = (vector(-1, 0), vector(3, 2), ())
        self.assertEqual(least_box(loop, box), box)
        self.assertEqual(least_box(loop, box[:2] + ((bound([1, 1], 1),),)), (vector(-1, 0), vector(1, 2), ()))
        self.assertEqual(least_box(loop, box[:2] + ((bound([-1, -2], -5),),)), (vector(1, 1), vector(3, 2), ()))
        triangle = (vector(-9, -9), vector(9, 9), (bound([1, 1], 1), bound([-1, 1], 1), bound([0, -1], 0)))
        self.assertEqual(least_box(loop, triangle), (vector(-1, 0), vector(1, 1), ()))

    def test_flat_regions(self):
        loop = straight(2)
        flat = (vector(0, 0), vector(4, 4), (bound([1, -2], 0), bound([-1, 2], 0)))
        self.assertEqual(least_box(loop, flat), (vector(0, 0), vector(4, 2), ()))
        point = (vector(1, HALF), vector(1, HALF), ())
        self.assertEqual(least_box(loop, point), point)
        self.assertEqual(next_box(loop, flat), (vector(0, 0), vector(4, 2), ()))
        self.assertEqual(next_box(TURN, flat), (vector(-2, 0), vector(0, 4), ()))
        self.assertEqual(next_box(LOOP, span(3, 3)), span(1, 3 * HALF))

    def test_next_box(self):
        self.assertEqual(next_box(LOOP, span(0, 1)), span(0, 3 * HALF))
        self.assertEqual(next_box(LOOP, span(-2, 10)), span(-2, 3 * HALF))
        self.assertEqual(next_box(COUNTER, span(0, 1)), span(1, 3))
        self.assertEqual(next_box(HALVING, span(-2, 2)), span(-1, 2))
        self.assertEqual(next_box(TURN, (vector(1, 2), vector(3, 5), ())), (vector(-5, 1), vector(-2, 3), ()))
        wide = TURN[:3] + (vector(-1, 0), vector(1, 7))
        self.assertEqual(next_box(wide, (vector(1, 2), vector(3, 5), ())), (vector(-6, 1), vector(-1, 10), ()))

    def test_no_points(self):
        for region in [NONE, span(0, 1)[:2] + ((bound([1], -1),),)]:
            self.assertIsNone(least_box(LOOP, region))
            self.assertIsNone(next_box(LOOP, region))

    def test_drawn(self):
        draw = Draw(360)
        seen = 0
        for _ in range(60):
            size = draw.integer(1, 2)
            loop = draw.loop(size, draw.pick([["sums", "bends", "sums"], ["greatest"]]))
            region = draw.region(size)
            handed = copy.deepcopy((loop, region))
            box, behind = least_box(loop, region), next_box(loop, region)
            self.assertEqual((loop, region), handed)
            self.assertEqual(box is None, behind is None)
            if box is None:
                continue
            spans = [[low + (high - low) * Fraction(k, 6) for k in range(7)]
                     for low, high in zip(fractions(box[0]), fractions(box[1]))]
            inside = [vector(*point) for point in product(*spans) if lies_in(region, vector(*point))]
            for point in inside:
                for drift in (loop[3], loop[4], draw.drift(loop)):
                    self.assertTrue(lies_in(behind, stepped_by(loop, point, drift)))
                    seen += 1
            for index in range(size):
                for end, other in ((0, 1), (1, 0)):
                    # A box that is less by a bit at one side does not contain the region.
                    cut = list(box[end])
                    cut[index] = ratio(fraction(cut[index]) + SMALL * (1 if end == 0 else -1))
                    less = (tuple(cut), box[1], ()) if end == 0 else (box[0], tuple(cut), ())
                    self.assertEqual(stays(straight(size), region, less, 0)[0], "leaves")
                    cut = list(behind[end])
                    cut[index] = ratio(fraction(cut[index]) + SMALL * (1 if end == 0 else -1))
                    less = (tuple(cut), behind[1], ()) if end == 0 else (behind[0], tuple(cut), ())
                    self.assertEqual(stays(loop, region, less, 1)[0], "leaves")
            self.assertEqual(stays(straight(size), region, box, 0)[0], "stays")
        self.assertGreater(seen, 300)


class SeekTest(unittest.TestCase):
    def assert_seek(self, word, loop, start, safe, turns):
        handed = copy.deepcopy((loop, start, safe))
        answer = seek(loop, start, safe, turns=turns)
        self.assertEqual((loop, start, safe), handed)
        self.assertEqual((answer[0], len(answer)), (word, 2))
        if word == "safe":
            self.assertIs(judge_warrant(loop, start, safe, answer[1]), True)
            self.assertEqual(answer[1][1], 1)
        elif word == "leaves":
            self.assertTrue(are_run(loop, answer[1]))
            self.assertLessEqual(len(answer[1]), turns + 1)
            self.assertTrue(lies_in(start, answer[1][0]))
            self.assertFalse(lies_in(safe, answer[1][-1]))
            self.assertEqual(stays(loop, start, safe, len(answer[1]) - 1)[0], "leaves")
            if len(answer[1]) > 1:
                self.assertEqual(stays(loop, start, safe, len(answer[1]) - 2)[0], "stays")
        else:
            self.assertIs(judge_stays(loop, start, safe, turns, answer[1]), True)
        return answer[1]

    def test_no_turns(self):
        self.assert_seek("open", LOOP, span(0, 1), span(0, 2), 0)
        self.assert_seek("leaves", LOOP, span(0, 1), span(0, HALF), 0)

    def test_one_turn(self):
        # The box of the start is not kept: 1 may become 3/2.
        self.assert_seek("open", LOOP, span(0, 1), span(0, 2), 1)
        self.assertEqual(self.assert_seek("safe", LOOP, span(0, 3 * HALF), span(0, 2), 1)[0], span(0, 3 * HALF))
        self.assert_seek("leaves", LOOP, span(0, 1), span(0, 1), 1)

    def test_several_turns(self):
        self.assertEqual(self.assert_seek("safe", LOOP, span(0, 1), span(0, 2), 2)[0], span(0, 3 * HALF))
        self.assertEqual(self.assert_seek("safe", LOOP, span(0, 1), span(0, 3 * HALF), 5)[0], span(0, 3 * HALF))
        self.assert_seek("leaves", COUNTER, span(0, 1), span(0, 10), 5)
        self.assert_seek("open", COUNTER, span(0, 1), span(0, 10), 4)
        self.assert_seek("open", COUNTER, span(0, 1), span(0, 10), 1)
        # Halving comes as near to 2 as one likes, but never there.
        self.assert_seek("open", HALVING, span(0, 1), span(0, 3), 4)
        self.assert_seek("safe", HALVING, span(0, 2), span(0, 3), 1)

    def test_the_box_of_the_start(self):
        # The start is a diagonal; its box turns into another one, and both together are kept.
        start = (vector(0, 0), vector(1, 1), (bound([1, -1], 0), bound([-1, 1], 0)))
        safe = (vector(-1, -1), vector(1, 1), ())
        self.assert_seek("open", TURN, start, safe, 1)
        self.assert_seek("open", TURN, start, safe, 2)
        self.assertEqual(self.assert_seek("safe", TURN, start, safe, 3)[0], safe)
        self.assert_seek("leaves", TURN, start, (vector(-1, 0), vector(1, 1), ()), 3)
        self.assert_seek("open", TURN, start, (vector(-1, 0), vector(1, 1), ()), 1)

    def test_boxes_that_are_not_safe(self):
        # The box of the start is not safe, the start is.
        start = (vector(0, 0), vector(1, 1), (bound([1, 1], 1),))
        self.assert_seek("open", straight(2), start, start, 3)
        self.assertEqual(warrant(straight(2), start, start, start, 1)[0], "safe")

    def test_a_start_without_points(self):
        for start in [NONE, span(0, 1)[:2] + ((bound([1], -1),),)]:
            for safe in [span(0, 1), NONE]:
                for turns in (0, 1, 5):
                    self.assertEqual(self.assert_seek("safe", COUNTER, start, safe, turns)[0], start)

    def test_no_safe_state(self):
        self.assertEqual(len(self.assert_seek("leaves", LOOP, span(0, 1), NONE, 3)), 1)

    def test_drawn(self):
        draw = Draw(361)
        words = []
        for _ in range(50):
            size = draw.integer(1, 2)
            loop = draw.loop(size, ["sums", "bends", "sums"], 1)
            safe = (vector(*[-draw.integer(2, 12)] * size), vector(*[draw.integer(2, 12)] * size), ())
            start = draw.region(size, 0)
            word = seek(loop, start, safe, turns=2)[0]
            words.append(word)
            self.assert_seek(word, loop, start, safe, 2)
        for word in ("safe", "leaves", "open"):
            self.assertGreater(words.count(word), 2)


class ErrorTest(unittest.TestCase):
    def test_order(self):
        for value in STRANGE + [LOOP[:4]]:
            for call in [lambda: least_box(value, None), lambda: next_box(value, None),
                         lambda: seek(value, None, None, turns=None)]:
                with self.assertRaises(BadLoop):
                    call()
        with self.assertRaises(BadNetwork):
            seek((None,) * 5, None, None, turns=None)
        for value in STRANGE + [(vector(0, 0), vector(1, 1), ())]:
            for call in [lambda: least_box(LOOP, value), lambda: next_box(LOOP, value),
                         lambda: seek(LOOP, value, NONE, turns=None), lambda: seek(LOOP, NONE, value, turns=10**9)]:
                with self.assertRaises(BadRegion):
                    call()
        for value in STRANGE + [-1, (1, 1)]:
            with self.assertRaises(BadCount):
                seek(LOOP, NONE, NONE, turns=value)
        for start in (NONE, span(0, 1)):
            for turns in (1000, 10**12):
                with self.assertRaises(BadNetwork) as caught:
                    seek(LOOP, start, NONE, turns=turns)
                self.assertEqual((caught.exception.layer, caught.exception.reason), (-1, "inputs"))
        self.assertEqual(seek(LOOP, span(0, 1), NONE, turns=999)[0], "leaves")

    def test_states_of_many_items(self):
        loop = straight(WIDE)
        region, none = (loop[3], loop[4], ()), (vector(*[1] * WIDE), loop[4], ())
        self.assertIsNone(next_box(loop, none))
        with self.assertRaises(BadNetwork) as caught:
            next_box(loop, region)
        self.assertEqual((caught.exception.layer, caught.exception.reason), (-1, "inputs"))
        with self.assertRaises(BadNetwork):
            seek(loop, none, none, turns=1)


if __name__ == "__main__":
    unittest.main()
