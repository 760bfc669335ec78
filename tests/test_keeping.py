"""Points 905 to 908 and point 2, item 9: where runs land, what they leave, and warrants."""

import copy
import unittest
from fractions import Fraction

from helpers import JUNK, STRANGE, Draw, are_run, bound, lies_in, matrix, replaced, shortened, sums, vector
from kinkmeasure.claims import within
from kinkmeasure.errors import BadCount, BadLoop, BadNetwork, BadRegion
from kinkmeasure.distance import distance
from kinkmeasure.judge import judge
from kinkmeasure.keeping import (judge_kept, judge_lands, judge_stays, judge_warrant, kept, lands, region_claim, stays,
                                 warrant)
from kinkmeasure.loops import check_loop, states_of, swapped, unrolled, widened, with_drifts
from references import is_paper_by
from test_loops import WIDE, straight

HALF = Fraction(1, 2)
ONE_UNIT = (1, (sums([[1]], [-1]), ("bends", (True,)), sums([[-1]], [0])))
# The state keeps its value up to 1, and is cut to 1 above; the drift is between 0 and 1/2.
LOOP = (ONE_UNIT, matrix([1]), matrix([1]), vector(0), vector(HALF))
SPAN = (vector(0), vector(1), ())
HELD = (vector(0), vector(3 * HALF), ())
NONE = (vector(1), vector(0), ())
# A counter: each step adds between 1 and 2.
COUNTER = (ONE_UNIT, matrix([1]), matrix([0]), vector(1), vector(2))
SMALL = Fraction(1, 10**12)


def span(low, high):
    return (vector(low), vector(high), ())


class LandsTest(unittest.TestCase):
    def assert_lands(self, loop, region, count, target, word=None):
        handed = copy.deepcopy((loop, region, target))
        answer = lands(loop, region, count, target)
        self.assertEqual((loop, region, target), handed)
        self.assertEqual((type(answer), len(answer)), (tuple, 2))
        if answer[0] == "lands":
            network, inputs = unrolled(loop, count), with_drifts(loop, region, count)
            self.assertEqual(len(answer[1]), len(region_claim(target)))
            for clause, paper in zip(region_claim(target), answer[1]):
                self.assertTrue(is_paper_by(network, inputs, clause, paper))
            self.assertIs(judge_lands(loop, region, count, target, answer[1]), True)
        else:
            self.assert_misses(answer, loop, region, count, target)
        if word is not None:
            self.assertEqual(answer[0], word)
        return answer[0]

    def assert_misses(self, answer, loop, region, count, target):
        self.assertEqual(answer[0], "misses")
        self.assertEqual(len(answer[1]), count + 1)
        self.assertTrue(are_run(loop, answer[1]))
        self.assertTrue(lies_in(region, answer[1][0]))
        self.assertFalse(lies_in(target, answer[1][-1]))

    def test_claim(self):
        region = (vector(1, 2), vector(3, 4), (bound([5, 6], 7),))
        self.assertEqual(region_claim(region), ((bound([1, 0], 3),), (bound([-1, 0], -1),), (bound([0, 1], 4),),
                                                (bound([0, -1], -2),), (bound([5, 6], 7),)))
        self.assertEqual(region_claim(SPAN), within(*SPAN[:2]))

    def test_worked(self):
        self.assert_lands(LOOP, SPAN, 0, SPAN, "lands")
        self.assert_lands(LOOP, SPAN, 0, span(0, 1 - SMALL), "misses")
        for count in (1, 2, 3):
            self.assert_lands(LOOP, SPAN, count, HELD, "lands")
            self.assert_lands(LOOP, SPAN, count, span(0, 3 * HALF - SMALL), "misses")
            self.assert_lands(LOOP, SPAN, count, span(SMALL, 2), "misses")
        self.assert_lands(LOOP, span(-10, 100), 1, span(-10, 3 * HALF), "lands")
        for count in range(4):
            self.assert_lands(COUNTER, span(0, 1), count, span(count, 2 * count + 1), "lands")
            self.assert_lands(COUNTER, span(0, 1), count, span(count + SMALL, 2 * count + 1), "misses")
            self.assert_lands(COUNTER, span(0, 1), count, span(count, 2 * count + 1 - SMALL), "misses")

    def test_further_bounds(self):
        loop = straight(2)
        region = (vector(0, 0), vector(1, 1), (bound([1, 1], 1),))
        self.assert_lands(loop, region, 1, region, "lands")
        self.assert_lands(loop, region, 2, (vector(0, 0), vector(1, 1), (bound([1, 1], 1 - SMALL),)), "misses")
        self.assert_lands(loop, region[:2] + ((bound([1, 1], 1 - SMALL),),), 1, region, "lands")

    def test_no_points(self):
        for count in range(3):
            self.assert_lands(LOOP, NONE, count, SPAN, "lands")
            self.assert_lands(LOOP, NONE, count, NONE, "lands")
            self.assert_lands(LOOP, SPAN, count, NONE, "misses")
            self.assert_lands(LOOP, SPAN, count, SPAN[:2] + ((bound([0], -1),),), "misses")

    def test_drawn(self):
        draw = Draw(340)
        words = []
        for _ in range(80):
            size = draw.integer(1, 2)
            loop = draw.loop(size, draw.pick([None, ["sums", "bends", "sums"]]))
            if sum(len(layer[1]) for layer in loop[0][1] if layer[0] == "bends") > 4 or len(loop[0][1]) > 3:
                continue
            region = draw.region(size)
            far = tuple((a - 9 * b, b) for a, b in region[0]), tuple((a + 9 * b, b) for a, b in region[1]), ()
            words.append(self.assert_lands(loop, region, draw.integer(0, 2), draw.pick([region, far, draw.region(size)])))
        self.assertGreater(words.count("lands"), 10)
        self.assertGreater(words.count("misses"), 10)

    def test_kept(self):
        self.assertEqual(kept(LOOP, HELD)[0], "kept")
        self.assertEqual(kept(LOOP, SPAN), ("left", (vector(1), vector(3 * HALF))))
        self.assertEqual(kept(LOOP, NONE)[0], "kept")
        self.assertEqual(kept(straight(3), (vector(0, 0, 0), vector(1, 1, 1), (bound([1, 2, 3], 2),)))[0], "kept")
        papers = kept(LOOP, HELD)[1]
        self.assertIs(judge_kept(LOOP, HELD, papers), True)
        self.assertIs(judge_lands(LOOP, HELD, 1, HELD, papers), True)
        self.assertIs(judge(unrolled(LOOP, 1), with_drifts(LOOP, HELD, 1), region_claim(HELD), papers), True)


class StaysTest(unittest.TestCase):
    def test_stays(self):
        for count in range(4):
            answer = stays(LOOP, SPAN, HELD, count)
            self.assertEqual((answer[0], len(answer[1])), ("stays", count + 1))
            for steps, papers in enumerate(answer[1]):
                self.assertIs(judge_lands(LOOP, SPAN, steps, HELD, papers), True)
            self.assertIs(judge_stays(LOOP, SPAN, HELD, count, answer[1]), True)

    def test_leaves_as_soon_as_possible(self):
        for limit, steps in [(0, 0), (HALF, 0), (1, 1), (2, 1), (3 - SMALL, 1), (3, 2), (5 - SMALL, 2), (5, 3), (7, 4)]:
            for count in (4, 5):
                word, states = stays(COUNTER, SPAN, span(0, limit), count)
                self.assertEqual((word, len(states)), ("leaves", steps + 1))
                self.assertTrue(are_run(COUNTER, states))
                self.assertTrue(lies_in(SPAN, states[0]))
                self.assertFalse(lies_in(span(0, limit), states[-1]))
            self.assertEqual(stays(COUNTER, SPAN, span(0, limit), steps)[0], "leaves")
            if steps:
                self.assertEqual(stays(COUNTER, SPAN, span(0, limit), steps - 1)[0], "stays")

    def test_a_state_that_comes_back(self):
        # The state changes its sign: it is unsafe behind odd numbers of steps only.
        loop = (ONE_UNIT, matrix([-1]), matrix([0]), vector(0), vector(0))
        word, states = stays(loop, span(1, 2), span(0, 2), 2)
        self.assertEqual((word, len(states)), ("leaves", 2))
        self.assertTrue(are_run(loop, states))
        self.assertEqual(lands(loop, span(1, 2), 1, span(0, 2))[0], "misses")
        self.assertEqual(lands(loop, span(1, 2), 2, span(0, 2))[0], "lands")

    def test_no_points(self):
        self.assertEqual(stays(LOOP, NONE, NONE, 2)[0], "stays")
        self.assertEqual(len(stays(LOOP, SPAN, NONE, 2)[1]), 1)


class WarrantTest(unittest.TestCase):
    def assert_answer(self, word, length, loop, start, safe, held, count):
        handed = copy.deepcopy((loop, start, safe, held))
        answer = warrant(loop, start, safe, held, count)
        self.assertEqual((loop, start, safe, held), handed)
        self.assertEqual((answer[0], len(answer)), (word, 2))
        if word == "safe":
            self.assertEqual((len(answer[1]), answer[1][:2]), (5, (held, count)))
            self.assertIs(judge_warrant(loop, start, safe, answer[1]), True)
            _, _, begun, staying, back = answer[1]
            self.assertIs(judge_lands(loop, start, 0, held, begun), True)
            self.assertIs(judge_stays(loop, held, safe, count - 1, staying), True)
            self.assertIs(judge_lands(loop, held, count, held, back), True)
            return answer[1]
        states = answer[1]
        self.assertEqual(len(states), length)
        self.assertTrue(are_run(loop, states))
        self.assertTrue(lies_in(start if word == "outside" else held, states[0]))
        self.assertFalse(lies_in(safe if word == "leaves" else held, states[-1]))
        return states

    def test_safe(self):
        for count in (1, 2, 3):
            self.assert_answer("safe", None, LOOP, SPAN, HELD, HELD, count)
            self.assert_answer("safe", None, LOOP, SPAN, span(-5, 5), HELD, count)
            self.assert_answer("safe", None, LOOP, NONE, HELD, HELD, count)
            self.assert_answer("safe", None, LOOP, NONE, NONE, NONE, count)

    def test_outside(self):
        self.assert_answer("outside", 1, LOOP, span(-1, 1), span(0, 0), HELD, 1)
        self.assert_answer("outside", 1, LOOP, SPAN, NONE, NONE, 2)

    def test_leaves(self):
        self.assert_answer("leaves", 1, LOOP, SPAN, span(0, 1), HELD, 1)
        self.assert_answer("leaves", 1, COUNTER, SPAN, span(0, 1 - SMALL), SPAN, 3)
        self.assert_answer("leaves", 2, COUNTER, SPAN, SPAN, SPAN, 3)
        self.assert_answer("leaves", 3, COUNTER, SPAN, span(0, 3), SPAN, 4)
        self.assert_answer("leaves", 3, COUNTER, SPAN, span(0, 3), SPAN, 3)

    def test_strays(self):
        self.assert_answer("strays", 2, COUNTER, SPAN, SPAN, SPAN, 1)
        self.assert_answer("strays", 3, COUNTER, SPAN, span(0, 3), SPAN, 2)
        self.assert_answer("strays", 2, LOOP, SPAN, SPAN, SPAN, 1)

    def test_more_steps_than_one(self):
        # The two items change places, and the first one is doubled and halved again.
        loop = ((2, (sums([[0, 0]], [0]),)), matrix([0, HALF], [2, 0]), matrix([0], [0]), vector(0, 0), vector(0, 0))
        held = (vector(0, 0), vector(1, 1), ())
        self.assert_answer("strays", 2, loop, held, held, held, 1)
        self.assert_answer("leaves", 2, loop, held, held, held, 2)
        safe = (vector(0, 0), vector(1, 2), ())
        self.assert_answer("safe", None, loop, held, safe, held, 2)
        self.assert_answer("strays", 4, loop, held, safe, held, 3)

    def test_runs_of_warranted_loops(self):
        draw = Draw(341)
        found = 0
        for _ in range(150):
            size = draw.integer(1, 2)
            loop = draw.loop(size, ["sums", "bends", "sums"], 1)
            box = (vector(*[-6] * size), vector(*[6] * size), ())
            start = draw.region(size, 0)
            answer = warrant(loop, start, box, box, 1)
            if answer[0] != "safe":
                continue
            found += 1
            self.assertIs(judge_warrant(loop, start, box, answer[1]), True)
            state = start[0]
            if lies_in(start, state):
                for one in states_of(loop, state, tuple(draw.drift(loop) for _ in range(8))):
                    self.assertTrue(lies_in(box, one))
        self.assertGreater(found, 10)

    def test_widened(self):
        # A warrant for the loop widened by the distance also holds for the swapped one.
        other = (1, (sums([[1]], [Fraction(-9, 10)]), ("bends", (True,)), sums([[-1]], [0])))
        safe = span(-1, 2)
        answer = distance(ONE_UNIT, other, safe)
        self.assertEqual(answer[:2], ("distance", (1, 10)))
        wide = widened(LOOP, answer[1])
        held = span(-1, Fraction(8, 5))
        self.assertEqual(warrant(wide, SPAN, safe, held, 1)[0], "strays")
        start = span(HALF, 1)
        loop = (ONE_UNIT, matrix([HALF]), matrix([1]), vector(0), vector(HALF))
        wide = widened(loop, answer[1])
        held = span(Fraction(-1, 5), Fraction(6, 5))
        shown = warrant(wide, start, safe, held, 1)
        self.assertEqual(shown[0], "safe")
        self.assertIs(judge_warrant(wide, start, safe, shown[1]), True)
        states = states_of(swapped(loop, other), vector(1), (vector(HALF), vector(0), vector(HALF), vector(0)))
        self.assertTrue(all(lies_in(held, state) for state in states))


class JudgeTest(unittest.TestCase):
    def setUp(self):
        self.landing = lands(LOOP, SPAN, 2, HELD)[1]
        self.staying = stays(LOOP, SPAN, HELD, 2)[1]
        self.warrant = warrant(LOOP, SPAN, HELD, HELD, 2)[1]

    def test_lands(self):
        self.assertIs(judge_lands(LOOP, SPAN, 2, HELD, self.landing), True)
        for loop, region, count, target in [
                (COUNTER, SPAN, 2, HELD), (LOOP[:4] + (vector(1),), SPAN, 2, HELD), (LOOP, span(0, 3), 2, HELD),
                (LOOP, SPAN, 1, HELD), (LOOP, SPAN, 3, HELD), (LOOP, SPAN, 2, SPAN), (LOOP, SPAN, 2, span(1, 2)),
                (LOOP, SPAN, 2, HELD[:2] + ((bound([1], 9),),))]:
            self.assertIs(judge_lands(loop, region, count, target, self.landing), False)
        network, inputs = unrolled(LOOP, 2), with_drifts(LOOP, SPAN, 2)
        for junk in JUNK:
            self.assertIs(judge_lands(LOOP, SPAN, 2, HELD, junk), False)
            for papers in replaced(self.landing, junk):
                self.assertIs(judge_lands(LOOP, SPAN, 2, HELD, papers),
                              judge(network, inputs, region_claim(HELD), papers))
        for papers in [self.landing[:1], self.landing + self.landing[:1], list(self.landing), self.landing[::-1]]:
            self.assertIs(judge_lands(LOOP, SPAN, 2, HELD, papers), False)

    def test_kept(self):
        papers = kept(LOOP, HELD)[1]
        self.assertIs(judge_kept(LOOP, HELD, papers), True)
        for loop, region in [(COUNTER, HELD), (LOOP, SPAN), (LOOP[:3] + (vector(-1), vector(HALF)), HELD),
                             (LOOP, span(0, 3 * HALF - SMALL))]:
            self.assertIs(judge_kept(loop, region, papers), False)
        for value in JUNK + [papers[:1], papers + papers, list(papers), papers[::-1]]:
            self.assertIs(judge_kept(LOOP, HELD, value), False)

    def test_stays(self):
        self.assertIs(judge_stays(LOOP, SPAN, HELD, 2, self.staying), True)
        for loop, start, safe, count in [(COUNTER, SPAN, HELD, 2), (LOOP, HELD, HELD, 2), (LOOP, SPAN, SPAN, 2),
                                         (LOOP, SPAN, HELD, 1), (LOOP, SPAN, HELD, 3), (LOOP, SPAN, HELD, 0)]:
            self.assertIs(judge_stays(loop, start, safe, count, self.staying), False)
        for value in JUNK + [self.staying[:2], self.staying + self.staying[:1], list(self.staying), self.staying[::-1],
                             self.staying[0]]:
            self.assertIs(judge_stays(LOOP, SPAN, HELD, 2, value), False)
        for at in range(3):
            for junk in JUNK:
                wrong = self.staying[:at] + (junk,) + self.staying[at + 1:]
                self.assertIs(judge_stays(LOOP, SPAN, HELD, 2, wrong), False)

    def test_warrant(self):
        held, count, begun, staying, back = self.warrant
        self.assertIs(judge_warrant(LOOP, SPAN, HELD, self.warrant), True)
        # What shows that the states are at most 3/2 shows that they are at most 2.
        self.assertIs(judge_warrant(LOOP, SPAN, span(0, 2), self.warrant), True)
        for loop, start, safe in [(COUNTER, SPAN, HELD), (LOOP, span(0, 2), HELD), (LOOP, SPAN, SPAN),
                                  (LOOP[:4] + (vector(1),), SPAN, HELD)]:
            self.assertIs(judge_warrant(loop, start, safe, self.warrant), False)
        for wrong in [(held, 1, begun, staying, back), (held, 3, begun, staying, back), (held, 0, begun, staying, back),
                      (held, -1, begun, staying, back), (held, True, begun, staying, back), (held, 2.0, begun, staying, back),
                      (held, 2, begun, staying[:1], back), (held, 2, begun, staying, staying[1]),
                      (held, 2, back, staying, begun), (SPAN, 2, begun, staying, back), (None, 2, begun, staying, back),
                      (held[:2], 2, begun, staying, back), (held, 2, begun, begun, back), self.warrant[:4],
                      self.warrant + (None,), list(self.warrant), (vector(0, 0), vector(1, 1), ())]:
            self.assertIs(judge_warrant(LOOP, SPAN, HELD, wrong), False)
        for value in JUNK:
            self.assertIs(judge_warrant(LOOP, SPAN, HELD, value), False)
            for at in range(5):
                wrong = self.warrant[:at] + (value,) + self.warrant[at + 1:]
                self.assertIs(judge_warrant(LOOP, SPAN, HELD, wrong), repr(wrong) == repr(self.warrant))

    def test_warrant_of_one_step(self):
        shown = warrant(LOOP, SPAN, HELD, HELD, 1)[1]
        self.assertIs(judge_warrant(LOOP, SPAN, HELD, shown), True)
        self.assertIs(judge_warrant(LOOP, SPAN, HELD, (shown[0], True) + shown[2:]), False)
        for wrong in shortened(shown):
            self.assertIs(judge_warrant(LOOP, SPAN, HELD, wrong), False)
        for junk in JUNK[::4]:
            for wrong in replaced(shown, junk):
                if judge_warrant(LOOP, SPAN, HELD, wrong):
                    self.assertEqual(wrong[1], 1)
                    self.assertIs(judge_lands(LOOP, SPAN, 0, wrong[0], wrong[2]), True)
                    self.assertIs(judge_stays(LOOP, wrong[0], HELD, 0, wrong[3]), True)
                    self.assertIs(judge_lands(LOOP, wrong[0], 1, wrong[0], wrong[4]), True)

    def test_count_that_is_too_great(self):
        for count in (1000, 10**12):
            self.assertIs(judge_warrant(LOOP, SPAN, HELD, (HELD, count) + self.warrant[2:]), False)
        # The papers of one step are right, but a state has too many items for the count 1.
        loop = straight(WIDE)
        region = (loop[3], loop[4], ())
        self.assertIs(judge_warrant(loop, region, region, (region, 1, (), ((),), ())), False)


class ErrorTest(unittest.TestCase):
    LANDS = (lambda loop, region, count, target: lands(loop, region, count, target),
             lambda loop, region, count, target: judge_lands(loop, region, count, target, None))
    STAYS = (lambda loop, start, safe, count: stays(loop, start, safe, count),
             lambda loop, start, safe, count: judge_stays(loop, start, safe, count, None))
    WRONG_REGIONS = STRANGE + [(vector(0, 0), vector(1, 1), ()), SPAN[:2]]

    def test_loop_first(self):
        calls = [lambda loop: call(loop, None, None, None) for call in self.LANDS + self.STAYS]
        calls += [lambda loop: kept(loop, None), lambda loop: judge_kept(loop, None, None),
                  lambda loop: warrant(loop, None, None, None, None), lambda loop: judge_warrant(loop, None, None, None)]
        for call in calls:
            for value in STRANGE + [LOOP[:4], (ONE_UNIT, None, None, None, None)]:
                with self.assertRaises(BadLoop):
                    call(value)
            with self.assertRaises(BadNetwork):
                call((None,) * 5)

    def test_then_regions(self):
        for value in self.WRONG_REGIONS:
            for call in [lambda: lands(LOOP, value, None, SPAN), lambda: lands(LOOP, SPAN, None, value),
                         lambda: judge_lands(LOOP, value, None, SPAN, None), lambda: judge_lands(LOOP, SPAN, None, value, None),
                         lambda: kept(LOOP, value), lambda: judge_kept(LOOP, value, None),
                         lambda: stays(LOOP, value, SPAN, None), lambda: stays(LOOP, SPAN, value, 10**9),
                         lambda: judge_stays(LOOP, value, SPAN, None, None), lambda: judge_stays(LOOP, SPAN, value, None, None),
                         lambda: warrant(LOOP, value, SPAN, SPAN, None), lambda: warrant(LOOP, SPAN, value, SPAN, None),
                         lambda: warrant(LOOP, SPAN, SPAN, value, 10**9), lambda: judge_warrant(LOOP, value, SPAN, None),
                         lambda: judge_warrant(LOOP, SPAN, value, None)]:
                with self.assertRaises(BadRegion):
                    call()

    def test_then_counts(self):
        for value in STRANGE + [-1]:
            for call in [lambda: lands(LOOP, SPAN, value, SPAN), lambda: judge_lands(LOOP, SPAN, value, SPAN, None),
                         lambda: stays(LOOP, SPAN, SPAN, value), lambda: judge_stays(LOOP, SPAN, SPAN, value, None),
                         lambda: warrant(LOOP, SPAN, SPAN, SPAN, value)]:
                with self.assertRaises(BadCount):
                    call()
        with self.assertRaises(BadCount):
            warrant(LOOP, SPAN, SPAN, SPAN, 0)

    def assert_too_many(self, call):
        with self.assertRaises(BadNetwork) as caught:
            call()
        self.assertEqual((caught.exception.layer, caught.exception.reason), (-1, "inputs"))

    def test_then_the_number_of_inputs(self):
        for loop, most in [(LOOP, 999), (straight(3), 332)]:
            size = loop[0][0]
            region, none = (vector(*[0] * size), vector(*[0] * size), ()), (vector(*[1] * size), vector(*[0] * size), ())
            for count in (most + 1, 10**15):
                for start in (region, none):
                    for call in [lambda: lands(loop, start, count, region), lambda: judge_lands(loop, start, count, region, None),
                                 lambda: stays(loop, start, none, count), lambda: judge_stays(loop, start, region, count, None),
                                 lambda: warrant(loop, start, none, none, count)]:
                        self.assert_too_many(call)
            # A start that is unsafe at once is told for the greatest count that may be asked.
            self.assertEqual(stays(loop, region, none, most)[0], "leaves")
            self.assertEqual(warrant(loop, region, none, none, most)[0], "outside")
            self.assertIs(judge_stays(loop, region, region, most, ()), False)

    def test_states_of_many_items(self):
        loop = straight(WIDE)
        region = (loop[3], loop[4], ())
        none = (vector(*[1] * WIDE), loop[4], ())
        for start in (region, none):
            self.assert_too_many(lambda: kept(loop, start))
            self.assert_too_many(lambda: judge_kept(loop, start, None))
            self.assert_too_many(lambda: lands(loop, start, 1, start))
            self.assert_too_many(lambda: warrant(loop, start, start, start, 1))
        with self.assertRaises(BadRegion):
            kept(loop, None)


if __name__ == "__main__":
    unittest.main()
