"""Points 909 and 910: goals that every run reaches."""

import copy
import unittest
from fractions import Fraction

from helpers import JUNK, STRANGE, Draw, are_run, bound, fraction, fractions, lies_in, matrix, replaced, shortened, sums, vector
from kinkmeasure.errors import BadLoop, BadMeasure, BadNetwork, BadRegion
from kinkmeasure.joining import beside, select
from kinkmeasure.judge import judge
from kinkmeasure.keeping import judge_lands
from kinkmeasure.loops import states_of, step_network, with_drifts
from kinkmeasure.reaching import judge_reaches, most_steps, reaches
from kinkmeasure.ratios import is_ratio
from kinkmeasure.regions import is_region, rows_of
from kinkmeasure.vectors import is_vector
from test_loops import WIDE, straight

HALF = Fraction(1, 2)
# The state is halved, and at most 1/4 is added.
HALVING = ((1, (sums([[1]], [0]),)), matrix([0]), matrix([HALF]), vector(0), vector(Fraction(1, 4)))
# The state goes down by 1 to 2, but not below 0 without the drift.
FALLING = ((1, (sums([[1]], [-1]), ("bends", (True,)))), matrix([0]), matrix([1]), vector(-1), vector(0))
START = (vector(2), vector(4), ())
GOAL = (vector(-1), vector(1), ())
HELD = (vector(-1), vector(4), ())
NONE = (vector(1), vector(0), ())
SMALL = Fraction(1, 10**12)


def span(low, high):
    return (vector(low), vector(high), ())


def measure_by(vector_given, state):
    return sum(w * x for w, x in zip(fractions(vector_given), fractions(state)))


class ReachesTest(unittest.TestCase):
    def assert_reaches(self, word, loop, start, goal, held, line, fall):
        handed = copy.deepcopy((loop, start, goal, held, line, fall))
        answer = reaches(loop, start, goal, held, line, fall)
        self.assertEqual((loop, start, goal, held, line, fall), handed)
        self.assertEqual((type(answer), len(answer)), (tuple, 2))
        if word is not None:
            self.assertEqual(answer[0], word)
        states = answer[1]
        if answer[0] == "outside":
            self.assertEqual(len(states), 1)
            self.assertTrue(lies_in(start, states[0]))
            self.assertFalse(lies_in(held, states[0]))
        elif answer[0] == "stuck":
            self.assertEqual(len(states), 2)
            self.assertTrue(are_run(loop, states))
            self.assertTrue(lies_in(held, states[0]))
            self.assertFalse(lies_in(goal, states[0]))
            falls = measure_by(line, states[1]) <= measure_by(line, states[0]) - fraction(fall)
            self.assertFalse(falls and lies_in(held, states[1]))
        else:
            self.assertEqual((answer[0], len(states), states[:3]), ("reaches", 5, (held, line, fall)))
            self.assertIs(judge_lands(loop, start, 0, held, states[3]), True)
            network, claim = self.question(loop, goal, held, line, fall)
            self.assertIs(judge(network, with_drifts(loop, held, 1), claim, states[4]), True)
            self.assertIs(judge_reaches(loop, start, goal, states), True)
        return answer[0]

    def question(self, loop, goal, held, line, fall):
        """The network and the claim of the papers, written out."""
        size = loop[0][0]
        network = beside(step_network(loop), select(2 * size, tuple(range(size))))
        nothing = vector(*[0] * size)
        ahead = [(row + nothing, limit) for row, limit in rows_of(held)]
        ahead.append((line + vector(*[-x for x in fractions(line)]), (-fall[0], fall[1])))
        behind = [(nothing + row, limit) for row, limit in rows_of(goal)]
        return network, tuple((one, other) for one in ahead for other in behind)

    def test_worked(self):
        self.assert_reaches("reaches", HALVING, START, GOAL, HELD, vector(1), (1, 4))
        self.assert_reaches("stuck", HALVING, START, GOAL, HELD, vector(1), (1, 2))
        self.assert_reaches("stuck", HALVING, START, GOAL, HELD, vector(-1), (1, 4))
        self.assert_reaches("reaches", HALVING, START, span(-1, 3 * HALF / 2), HELD, vector(1), (1, 8))
        self.assert_reaches("stuck", HALVING, START, span(-1, 3 * HALF / 2), HELD, vector(1), (1 + 10**9, 8 * 10**9))
        self.assert_reaches("stuck", HALVING, START, span(-1, HALF), HELD, vector(1), (1, 10**20))
        self.assert_reaches("reaches", FALLING, START, GOAL, HELD, vector(1), (1, 1))
        self.assert_reaches("stuck", FALLING, START, GOAL, HELD, vector(1), (1 + 10**9, 10**9))
        self.assert_reaches("reaches", FALLING, START, GOAL, HELD, vector(3), (3, 1))

    def test_outside_first(self):
        self.assert_reaches("outside", HALVING, span(2, 5), GOAL, HELD, vector(-1), (100, 1))
        self.assert_reaches("outside", HALVING, span(2, 4 + SMALL), GOAL, HELD, vector(1), (1, 4))
        self.assert_reaches("outside", HALVING, START, GOAL, NONE, vector(1), (1, 4))

    def test_held_states_that_leave(self):
        # The state 0 is held and not in the goal, and may go down to -1, which is not held.
        self.assert_reaches("stuck", FALLING, START, span(1, 2), span(0, 4), vector(1), (1, 10))
        loop = FALLING[:3] + (vector(0), vector(0))
        self.assert_reaches("reaches", loop, START, span(0, 1), span(0, 4), vector(1), (1, 1))
        self.assert_reaches("stuck", loop, START, span(0, 1), span(SMALL, 4), vector(1), (1, 1))
        self.assert_reaches("reaches", loop, START, span(0, 1), span(-9, 4)[:2] + ((bound([-1], 0),),), vector(1), (1, 1))

    def test_states_of_the_goal(self):
        # Nothing is asked of a state in the goal, not even that the next one is held.
        still = ((1, (sums([[0]], [0]),)), matrix([1]), matrix([0]), vector(0), vector(0))
        self.assert_reaches("reaches", still, span(0, 1), span(0, 1), span(0, 1), vector(1), (9, 1))
        self.assert_reaches("stuck", still, span(0, 1), span(0, 1 - SMALL), span(0, 1), vector(1), (1, 10**9))
        away = still[:3] + (vector(7), vector(7))
        self.assert_reaches("reaches", away, span(0, 1), span(0, 1), span(0, 1), vector(1), (9, 1))

    def test_no_points(self):
        self.assert_reaches("reaches", HALVING, NONE, GOAL, HELD, vector(1), (1, 4))
        self.assert_reaches("reaches", HALVING, NONE, GOAL, NONE, vector(1), (7, 1))
        self.assert_reaches("stuck", HALVING, NONE, NONE, HELD, vector(1), (1, 4))
        self.assert_reaches("reaches", HALVING, HELD, HELD, HELD, vector(0), (7, 1))

    def test_drawn(self):
        draw = Draw(350)
        words = []
        for _ in range(60):
            size = draw.integer(1, 2)
            loop = draw.loop(size, ["sums", "bends", "sums"], 1)
            start = draw.region(size, 0)
            held = (vector(*[-9] * size), vector(*[9] * size), draw.system(size, draw.integer(0, 1)))
            goal = (vector(*[-draw.integer(1, 9)] * size), vector(*[draw.integer(1, 9)] * size), ())
            words.append(self.assert_reaches(None, loop, start, goal, draw.pick([held, held, goal]), draw.vector(size),
                                             (draw.integer(1, 3), 7)))
        for word in ("outside", "stuck", "reaches"):
            self.assertGreater(words.count(word), 3)


class StepsTest(unittest.TestCase):
    def assert_steps(self, expected, loop, start, held, line, fall):
        handed = copy.deepcopy((loop, start, held, line, fall))
        found = most_steps(loop, start, held, line, fall)
        self.assertEqual((type(found), found), (int, expected))
        self.assertEqual((loop, start, held, line, fall), handed)

    def test_worked(self):
        self.assert_steps(20, HALVING, START, HELD, vector(1), (1, 4))
        self.assert_steps(5, HALVING, START, HELD, vector(1), (1, 1))
        self.assert_steps(2, HALVING, START, HELD, vector(1), (2, 1))
        self.assert_steps(1, HALVING, START, HELD, vector(1), (5, 1))
        self.assert_steps(0, HALVING, START, HELD, vector(1), (5 * 10**9 + 1, 10**9))
        self.assert_steps(2, HALVING, START, HELD, vector(-1), (1, 1))
        self.assert_steps(0, HALVING, START, HELD, vector(0), (1, 1))
        self.assert_steps(10**30 * 5, HALVING, START, HELD, vector(1), (1, 10**30))

    def test_negative(self):
        self.assert_steps(0, HALVING, span(-9, -3), HELD, vector(1), (1, 4))
        self.assert_steps(0, HALVING, span(-9, -1 - SMALL), HELD, vector(1), (1, 10**30))
        self.assert_steps(0, HALVING, span(-9, -1), HELD, vector(1), (1, 10**30))

    def test_no_points(self):
        for line in (vector(1), vector(-1), vector(0)):
            self.assert_steps(0, HALVING, NONE, HELD, line, (1, 4))
            self.assert_steps(0, HALVING, START, NONE, line, (1, 4))
            self.assert_steps(0, HALVING, NONE, NONE, line, (1, 4))
        self.assert_steps(0, HALVING, START[:2] + ((bound([1], 1),),), HELD, vector(1), (1, 4))

    def test_further_bounds(self):
        loop = straight(2)
        box = (vector(0, 0), vector(3, 3), (bound([1, 1], 4),))
        self.assert_steps(7, loop, box, box, vector(1, 2), (1, 1))
        self.assert_steps(6, loop, box, box[:2] + ((bound([-1, 0], -1),),), vector(1, 2), (1, 1))

    def test_runs(self):
        draw = Draw(351)
        for line, fall in [(vector(1), (1, 4)), (vector(2), (1, 2))]:
            self.assertEqual(reaches(HALVING, START, GOAL, HELD, line, fall)[0], "reaches")
            most = most_steps(HALVING, START, HELD, line, fall)
            for _ in range(20):
                states = states_of(HALVING, vector(draw.integer(2, 4)), tuple(draw.drift(HALVING) for _ in range(most)))
                self.assertTrue(any(lies_in(GOAL, state) for state in states))

    def test_many_items(self):
        loop = straight(600)
        region = (loop[3], loop[4], ())
        self.assert_steps(0, loop, region, region, loop[3], (1, 1))


class JudgeTest(unittest.TestCase):
    def setUp(self):
        self.shown = reaches(FALLING, START, GOAL, HELD, vector(1), (1, 1))[1]

    def assert_judged(self, right, shown, loop=FALLING, start=START, goal=GOAL):
        self.assertIs(judge_reaches(loop, start, goal, shown), right)

    def test_right(self):
        self.assert_judged(True, self.shown)

    def test_one_thing_changed(self):
        held, line, fall, begun, falling = self.shown
        for wrong in [(HELD[:1] + (vector(5), ()), line, fall, begun, falling), (held, vector(2), fall, begun, falling),
                      (held, vector(-1), fall, begun, falling), (held, line, (2, 1), begun, falling), (held, line, (0, 1), begun, falling),
                      (held, line, (-1, 1), begun, falling), (held, line, (2, 2), begun, falling), (held, line, 1, begun, falling),
                      (held, line, (True, 1), begun, falling), (held, vector(1, 1), fall, begun, falling),
                      (held, line, fall, begun[:1], falling), (held, line, fall, begun, falling[:-1]),
                      (held, line, fall, begun, falling[::-1]), (held, line, fall, falling, begun),
                      (held, line, fall, begun, list(falling)), self.shown[:4], self.shown + (None,), list(self.shown), ()]:
            self.assert_judged(False, wrong)
        for value in JUNK:
            self.assert_judged(False, value)
        for wrong in shortened(self.shown):
            self.assert_judged(self.is_right(wrong), wrong)

    def is_right(self, shown):
        """Whether what has one place replaced is right, by the judges of papers."""
        if type(shown) is not tuple or len(shown) != 5:
            return False
        held, line, fall, begun, falling = shown
        if not is_region(1, held) or not is_vector(line, size=1) or not is_ratio(fall) or fall[0] < 1:
            return False
        network, claim = ReachesTest().question(FALLING, GOAL, held, line, fall)
        return (judge_lands(FALLING, START, 0, held, begun)
                and judge(network, with_drifts(FALLING, held, 1), claim, falling))

    def test_places_replaced(self):
        for junk in JUNK[::3]:
            for wrong in replaced(self.shown, junk):
                self.assert_judged(self.is_right(wrong), wrong)

    def test_other_question(self):
        self.assert_judged(False, self.shown, loop=HALVING)
        self.assert_judged(False, self.shown, start=(vector(2), vector(5), ()))
        self.assert_judged(False, self.shown, goal=span(-1, 0))
        self.assert_judged(False, self.shown, goal=GOAL[:2] + ((bound([1], 1),),))
        self.assert_judged(True, self.shown, goal=span(-1, 2))


class ErrorTest(unittest.TestCase):
    MEASURES = [(value, (1, 1)) for value in STRANGE + [(), vector(1, 1), ((2, 4),), [(1, 1)]]] + [
        (vector(1), value) for value in STRANGE + [(0, 1), (-1, 1), (-1, 10**9), (2, 4), (1, 0), (True, 1), [1, 1], 1]]

    def test_loop_first(self):
        for value in STRANGE + [HALVING[:4]]:
            for call in [lambda: reaches(value, None, None, None, None, None), lambda: judge_reaches(value, None, None, None),
                         lambda: most_steps(value, None, None, None, None)]:
                with self.assertRaises(BadLoop):
                    call()
        with self.assertRaises(BadNetwork):
            reaches((None,) * 5, None, None, None, None, None)

    def test_then_regions(self):
        for value in STRANGE + [(vector(0, 0), vector(1, 1), ())]:
            for call in [lambda: reaches(HALVING, value, GOAL, HELD, None, None),
                         lambda: reaches(HALVING, START, value, HELD, None, None),
                         lambda: reaches(HALVING, START, GOAL, value, None, None),
                         lambda: judge_reaches(HALVING, value, GOAL, None), lambda: judge_reaches(HALVING, START, value, None),
                         lambda: most_steps(HALVING, value, HELD, None, None),
                         lambda: most_steps(HALVING, START, value, None, None)]:
                with self.assertRaises(BadRegion):
                    call()

    def test_then_the_measure(self):
        for line, fall in self.MEASURES:
            with self.assertRaises(BadMeasure):
                reaches(HALVING, span(9, 9), GOAL, HELD, line, fall)
            with self.assertRaises(BadMeasure):
                most_steps(HALVING, NONE, NONE, line, fall)

    def test_states_of_many_items(self):
        loop = straight(WIDE)
        region, none = (loop[3], loop[4], ()), (vector(*[1] * WIDE), loop[4], ())
        # What ends with an answer ahead of the step comes first.
        self.assertEqual(reaches(loop, region, region, none, loop[3], (1, 1))[0], "outside")
        with self.assertRaises(BadMeasure):
            reaches(loop, region, region, none, loop[3], (0, 1))
        with self.assertRaises(BadNetwork) as caught:
            reaches(loop, none, region, region, loop[3], (1, 1))
        self.assertEqual((caught.exception.layer, caught.exception.reason), (-1, "inputs"))
        self.assertIs(judge_reaches(loop, region, region, None), False)


if __name__ == "__main__":
    unittest.main()
