"""Points 900 to 904 and 913: loops, runs, the loop as a network, and other networks in a loop."""

import copy
import unittest
from fractions import Fraction

from helpers import (JUNK, STRANGE, Draw, are_run, bound, fraction, fractions, lies_in, matrix, outputs_by, ratio, replaced,
                     stepped_by, sums, vector)
from kinkmeasure.errors import BadCount, BadLoop, BadNetwork, BadPoint, BadRegion
from kinkmeasure.loops import (check_loop, is_drift, is_run, parted, state_size, states_of, steered, step, step_network,
                               swapped, unrolled, widened, with_drifts)
from kinkmeasure.networks import check_plain, out_size, units

HALF = Fraction(1, 2)
ONE_UNIT = (1, (sums([[1]], [-1]), ("bends", (True,)), sums([[-1]], [0])))
LOOP = (ONE_UNIT, matrix([1]), matrix([1]), vector(0), vector(HALF))
# Two items, one output; the drifts of the first item go both ways, the second has a single one.
PAIR = ((2, (("greatest", ((0, 1),)),)), matrix([HALF, 0], [1, HALF]), matrix([1], [-1]), vector(-1, 2), vector(1, 2))
SPAN = (vector(0), vector(1), ())
# An input outside of the promises of point 903: one step asks for 1002 inputs.
WIDE = 501


def straight(size):
    """A loop that keeps a state of so many items."""
    nothing = vector(*[0] * size)
    line = tuple(vector(*[0] * k, 1, *[0] * (size - k - 1)) for k in range(size))
    return ((size, (("sums", (nothing,), ((0, 1),)),)), line, (((0, 1),),) * size, nothing, nothing)


class CheckTest(unittest.TestCase):
    def assert_wrong(self, reason, value):
        with self.assertRaises(BadLoop) as caught:
            check_loop(value)
        self.assertEqual(caught.exception.reason, reason)

    def test_right(self):
        for loop in (LOOP, PAIR, straight(3), LOOP[:3] + (vector(1), vector(1))):
            kept = copy.deepcopy(loop)
            self.assertIsNone(check_loop(loop))
            self.assertEqual(loop, kept)
        self.assertEqual([state_size(loop) for loop in (LOOP, PAIR, straight(3))], [1, 2, 3])

    def test_form(self):
        for value in STRANGE + [LOOP[:4], LOOP + (None,), list(LOOP), (), (LOOP,), 0]:
            self.assert_wrong("form", value)

    def test_network(self):
        for value in STRANGE + [(0, ()), (1, (("greatest", ((1,),)),))]:
            with self.assertRaises(BadNetwork):
                check_loop((value, None, None, None, None))

    def test_own(self):
        for value in STRANGE + [(), matrix([1, 1]), matrix([1], [1]), (((2, 4),),), [((1, 1),)], vector(1), (vector(1), vector(1))]:
            self.assert_wrong("own", (ONE_UNIT, value, None, None, None))
        for value in [matrix([1]), matrix([1, 1]), matrix([1], [1]), matrix([1, 1, 1], [1, 1, 1]), matrix([1, 1], [1, 1], [1, 1])]:
            self.assert_wrong("own", (PAIR[0], value) + PAIR[2:])

    def test_pull(self):
        for value in STRANGE + [(), matrix([1, 1]), matrix([1], [1]), (((2, 4),),), [((1, 1),)], vector(1)]:
            self.assert_wrong("pull", LOOP[:2] + (value, None, None))
        for value in [matrix([1]), matrix([1, 1], [1, 1]), matrix([1], [1], [1])]:
            self.assert_wrong("pull", PAIR[:2] + (value,) + PAIR[3:])

    def test_drift(self):
        for value in STRANGE + [(), vector(0, 0), ((2, 4),), [(0, 1)], matrix([0])]:
            self.assert_wrong("drift", LOOP[:3] + (value, vector(HALF)))
            self.assert_wrong("drift", LOOP[:3] + (vector(0), value))
        self.assert_wrong("drift", LOOP[:3] + (vector(HALF), vector(0)))
        self.assert_wrong("drift", LOOP[:3] + (vector(0), vector(Fraction(-1, 10**30))))
        self.assert_wrong("drift", PAIR[:3] + (vector(-1, 3), vector(1, 2)))
        self.assert_wrong("drift", PAIR[:3] + (vector(2, 2), vector(1, 2)))

    def test_two_at_once(self):
        self.assert_wrong("own", (ONE_UNIT, None, None, vector(1), vector(0)))
        self.assert_wrong("pull", (ONE_UNIT, matrix([1]), None, vector(1), vector(0)))
        with self.assertRaises(BadNetwork):
            check_loop((None, None, None, None, None))
        self.assert_wrong("form", (None, None, None, None))

    def test_any_value(self):
        for junk in JUNK:
            for value in replaced(LOOP, junk):
                if repr(value) == repr(LOOP):
                    continue
                try:
                    check_loop(value)
                except (BadLoop, BadNetwork):
                    pass

    def test_every_function_checks_first(self):
        calls = [state_size, lambda loop: is_drift(loop, None), lambda loop: steered(loop, None),
                 lambda loop: step(loop, None, None), lambda loop: states_of(loop, None, None),
                 lambda loop: is_run(loop, None), step_network, lambda loop: unrolled(loop, None),
                 lambda loop: with_drifts(loop, None, None), lambda loop: parted(loop, None),
                 lambda loop: swapped(loop, None), lambda loop: widened(loop, (1, 1))]
        for call in calls:
            with self.assertRaises(BadLoop) as caught:
                call(None)
            self.assertEqual(caught.exception.reason, "form")
            with self.assertRaises(BadNetwork):
                call((None,) * 5)
            with self.assertRaises(BadLoop) as caught:
                call(LOOP[:1] + (None,) * 4)
            self.assertEqual(caught.exception.reason, "own")
            with self.assertRaises(BadLoop) as caught:
                call(LOOP[:2] + (None,) * 3)
            self.assertEqual(caught.exception.reason, "pull")
            with self.assertRaises(BadLoop) as caught:
                call(LOOP[:3] + (None,) * 2)
            self.assertEqual(caught.exception.reason, "drift")


class RunTest(unittest.TestCase):
    def test_drifts(self):
        for value, right in [(0, True), (HALF, True), (Fraction(1, 3), True), (Fraction(-1, 10**9), False),
                             (HALF + Fraction(1, 10**9), False), (-1, False), (5, False)]:
            self.assertIs(is_drift(LOOP, vector(value)), right)
        self.assertIs(is_drift(PAIR, vector(1, 2)), True)
        self.assertIs(is_drift(PAIR, vector(-1, 2)), True)
        self.assertIs(is_drift(PAIR, vector(0, 1)), False)
        self.assertIs(is_drift(PAIR, vector(2, 2)), False)
        for value in JUNK + [vector(0, 0), [(0, 1)]]:
            self.assertIs(is_drift(LOOP, value), False)

    def test_steered_and_step(self):
        self.assertEqual(step(LOOP, ((3, 1),), ((1, 2),)), ((3, 2),))
        self.assertEqual(steered(LOOP, vector(3)), vector(1))
        self.assertEqual(steered(LOOP, vector(-3)), vector(-3))
        # The greater item of (1, 3) is 3.
        self.assertEqual(steered(PAIR, vector(1, 3)), vector(HALF + 3, 1 + Fraction(3, 2) - 3))
        self.assertEqual(step(PAIR, vector(1, 3), vector(-1, 2)), vector(Fraction(5, 2), Fraction(3, 2)))

    def test_no_state_and_no_drift(self):
        for value in STRANGE + [(), vector(0, 0), ((2, 4),), [(0, 1)], 0]:
            for call in [lambda: steered(LOOP, value), lambda: step(LOOP, value, vector(0)),
                         lambda: step(LOOP, vector(0), value), lambda: states_of(LOOP, value, ()),
                         lambda: states_of(LOOP, vector(0), (vector(0), value))]:
                with self.assertRaises(BadPoint):
                    call()
        for value in STRANGE + [0, [vector(0)], vector(0), (vector(0), vector(0, 0))]:
            if value != ():
                with self.assertRaises(BadPoint):
                    states_of(LOOP, vector(0), value)
        for value in [vector(-1), vector(1), vector(HALF + Fraction(1, 10**12))]:
            with self.assertRaises(BadPoint):
                step(LOOP, vector(0), value)
            with self.assertRaises(BadPoint):
                states_of(LOOP, vector(0), (vector(0), value))

    def test_states(self):
        self.assertEqual(states_of(LOOP, vector(3), ()), (vector(3),))
        self.assertEqual(states_of(LOOP, vector(3), (vector(0), vector(HALF), vector(0))),
                         (vector(3), vector(1), vector(1 + HALF), vector(1)))

    def test_is_run(self):
        self.assertIs(is_run(LOOP, (((3, 1),), ((5, 4),), ((5, 4),))), True)
        self.assertIs(is_run(LOOP, (vector(-7),)), True)
        self.assertIs(is_run(LOOP, (vector(3), vector(1))), True)
        self.assertIs(is_run(LOOP, (vector(3), vector(1 + HALF))), True)
        small = Fraction(1, 10**15)
        for wrong in [(vector(3), vector(1 - small)), (vector(3), vector(1 + HALF + small)), (), [vector(3)], vector(3), (3,),
                      (vector(3, 1),), (vector(3), vector(1), vector(0)), (vector(3), vector(1), vector(1), vector(2)),
                      (vector(3), None), (vector(3), [(1, 1)]), (vector(3), ((2, 2),)), ((), vector(3)), (vector(3), ())]:
            self.assertIs(is_run(LOOP, wrong), False)
        for junk in JUNK:
            self.assertIs(is_run(LOOP, junk), is_run_by(junk))
            for value in replaced((vector(3), vector(1), vector(1)), junk):
                self.assertIs(is_run(LOOP, value), is_run_by(value), repr(value))

    def test_drawn(self):
        draw = Draw(330)
        for _ in range(120):
            size = draw.integer(1, 3)
            loop = draw.loop(size)
            state = draw.vector(size)
            drifts = tuple(draw.drift(loop) for _ in range(draw.integer(0, 4)))
            handed = copy.deepcopy((loop, state, drifts))
            states = [state]
            for drift in drifts:
                self.assertEqual(step(loop, states[-1], drift), stepped_by(loop, states[-1], drift))
                states.append(stepped_by(loop, states[-1], drift))
            self.assertEqual(states_of(loop, state, drifts), tuple(states))
            self.assertIs(is_run(loop, tuple(states)), True)
            self.assertEqual((loop, state, drifts), handed)
            at = draw.integer(0, len(states) - 1)
            states[at] = draw.vector(size)
            self.assertIs(is_run(loop, tuple(states)), are_run(loop, states))


def is_run_by(value):
    """Whether a value is a run of the loop with one unit, for values with one place replaced."""
    if type(value) is not tuple or value == ():
        return False
    for state in value:
        if type(state) is not tuple or len(state) != 1 or type(state[0]) is not tuple or len(state[0]) != 2:
            return False
        if any(type(part) is not int for part in state[0]) or state[0][1] < 1 or ratio(Fraction(*state[0])) != state[0]:
            return False
    return are_run(LOOP, value)


class UnrolledTest(unittest.TestCase):
    def assert_unrolled(self, loop, count, draw):
        handed = copy.deepcopy(loop)
        network = unrolled(loop, count)
        self.assertEqual(loop, handed)
        check_plain(network)
        size = loop[0][0]
        self.assertEqual((network[0], out_size(network)), (size * (count + 1), size))
        if count == 1:
            self.assertEqual(step_network(loop), network)
        for _ in range(4):
            state = draw.vector(size)
            drifts = tuple(draw.drift(loop) for _ in range(count))
            point = tuple(item for part in (state,) + drifts for item in part)
            states = states_of(loop, state, drifts)
            self.assertEqual(outputs_by(network, point), states[-1])
            self.assertEqual(parted(loop, point), states)

    def test_against_states(self):
        draw = Draw(331)
        for loop in [LOOP, PAIR, straight(2)]:
            for count in range(5):
                self.assert_unrolled(loop, count, draw)
        for _ in range(40):
            loop = draw.loop(draw.integer(1, 3))
            for count in range(3):
                self.assert_unrolled(loop, count, draw)

    def test_no_step(self):
        self.assertEqual(unrolled(LOOP, 0), (1, (sums([[1]], [0]),)))

    def test_drifts_of_any_size(self):
        # The network takes what is no drift as well.
        self.assertEqual(outputs_by(unrolled(LOOP, 1), vector(3, 100)), vector(101))

    def test_units(self):
        self.assertEqual([units(unrolled(LOOP, count)) for count in range(4)], [0, 1, 2, 3])

    def test_regions(self):
        self.assertEqual(with_drifts(LOOP, SPAN, 0), SPAN)
        self.assertEqual(with_drifts(LOOP, SPAN, 2), (vector(0, 0, 0), vector(1, HALF, HALF), ()))
        region = (vector(0, 1), vector(2, 3), (bound([1, -2], 5), bound([0, 1], 2)))
        self.assertEqual(with_drifts(PAIR, region, 1), (vector(0, 1, -1, 2), vector(2, 3, 1, 2),
                                                        (bound([1, -2, 0, 0], 5), bound([0, 1, 0, 0], 2))))
        empty = (vector(1), vector(0), ())
        self.assertEqual(with_drifts(LOOP, empty, 1), (vector(1, 0), vector(0, HALF), ()))

    def test_parted(self):
        self.assertEqual(parted(LOOP, vector(3)), (vector(3),))
        self.assertEqual(parted(LOOP, vector(3, HALF, 0)), (vector(3), vector(Fraction(3, 2)), vector(1)))
        self.assertEqual(parted(PAIR, vector(1, 3, -1, 2)), (vector(1, 3), vector(Fraction(5, 2), Fraction(3, 2))))

    def test_counts(self):
        for value in STRANGE + [-1, (1, 1)]:
            with self.assertRaises(BadCount):
                unrolled(LOOP, value)
            with self.assertRaises(BadCount):
                with_drifts(LOOP, SPAN, value)
        for value in STRANGE + [(vector(0, 0), vector(1, 1), ())]:
            with self.assertRaises(BadRegion):
                with_drifts(LOOP, value, None)

    def test_the_most_inputs(self):
        for loop, most in [(straight(1), 999), (straight(2), 499), (straight(3), 332), (straight(200), 4)]:
            region = (loop[3], loop[4], ())
            self.assertEqual(len(with_drifts(loop, region, most)[0]), loop[0][0] * (most + 1))
            for count in (most + 1, most + 2, 10**12):
                with self.assertRaises(BadNetwork) as caught:
                    unrolled(loop, count)
                self.assertEqual((caught.exception.layer, caught.exception.reason), (-1, "inputs"))
                with self.assertRaises(BadNetwork) as caught:
                    with_drifts(loop, region, count)
                self.assertEqual((caught.exception.layer, caught.exception.reason), (-1, "inputs"))
            with self.assertRaises(BadRegion):
                with_drifts(loop, None, most + 1)
        self.assertEqual(unrolled(straight(1), 999)[0], 1000)
        self.assertEqual(unrolled(straight(100), 9)[0], 1000)

    def test_one_step_of_great_states(self):
        loop = straight(WIDE)
        with self.assertRaises(BadNetwork) as caught:
            step_network(loop)
        self.assertEqual((caught.exception.layer, caught.exception.reason), (-1, "inputs"))
        self.assertEqual(unrolled(loop, 0)[0], WIDE)
        state = vector(*range(WIDE))
        self.assertEqual(steered(loop, state), state)
        self.assertEqual(step(loop, state, loop[3]), state)
        self.assertEqual(step_network(straight(500))[0], 1000)


class OtherNetworkTest(unittest.TestCase):
    def test_swapped(self):
        other = (1, (sums([[3]], [1]),))
        kept = copy.deepcopy(LOOP)
        self.assertEqual(swapped(LOOP, other), (other,) + LOOP[1:])
        self.assertEqual(LOOP, kept)
        for value in STRANGE + [(0, ())]:
            with self.assertRaises(BadNetwork):
                swapped(LOOP, value)
        with self.assertRaises(BadLoop) as caught:
            swapped(LOOP, (2, (sums([[1, 1]], [0]),)))
        self.assertEqual(caught.exception.reason, "own")
        with self.assertRaises(BadLoop) as caught:
            swapped(LOOP, (1, (sums([[1], [1]], [0, 0]),)))
        self.assertEqual(caught.exception.reason, "pull")

    def test_widened(self):
        loop = ((1, (sums([[1], [1], [1]], [0, 0, 0]),)), matrix([1]), matrix([1, -2, HALF]), vector(-1), vector(2))
        kept = copy.deepcopy(loop)
        self.assertEqual(widened(loop, (1, 3)), loop[:3] + (vector(-1 - Fraction(7, 6)), vector(2 + Fraction(7, 6))))
        self.assertEqual(widened(loop, (0, 1)), loop)
        self.assertEqual(loop, kept)
        self.assertEqual(widened(PAIR, (2, 1)), PAIR[:3] + (vector(-3, 0), vector(3, 4)))

    def test_runs_of_near_networks(self):
        draw = Draw(332)
        for _ in range(80):
            size = draw.integer(1, 2)
            loop = draw.loop(size, ["sums", "bends", "sums"])
            other = draw.network(size, ["sums", "bends", "sums"])
            if out_size(other) != out_size(loop[0]):
                continue
            state = draw.vector(size)
            drift = draw.drift(loop)
            apart = [abs(x - y) for x, y in zip(fractions(outputs_by(loop[0], state)), fractions(outputs_by(other, state)))]
            later = step(swapped(loop, other), state, drift)
            self.assertIs(is_run(widened(loop, ratio(max(apart))), (state, later)), True)


if __name__ == "__main__":
    unittest.main()
