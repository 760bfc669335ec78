"""Points 710 to 714 and point 2, item 7: how far from a point a claim holds."""

import copy
import unittest
from fractions import Fraction

from helpers import (JUNK, STRANGE, Draw, bent_by, bound, fraction, fractions, holds_by, lies_in, outputs_by, ratio,
                     replaced, sums, vector)
from kinkmeasure.claims import within
from kinkmeasure.errors import BadClaim, BadNetwork, BadPoint, BadRegion
from kinkmeasure.flatten import flatten
from kinkmeasure.judge import judge
from kinkmeasure.networks import out_size
from kinkmeasure.steady import judge_steady, reach, steady, within_radius
from references import is_paper_by

# The greater one of x - 1 and 0.
ONE_UNIT = (1, (sums([[1]], [-1]), ("bends", (True,)), sums([[1]], [0])))
SPAN = (vector(-5), vector(5), ())
# The sum of the absolute values of two inputs.
SUM = (2, (sums([[1, 0], [-1, 0], [0, 1], [0, -1]], [0] * 4), ("bends", (True,) * 4), sums([[1, 1, 1, 1]], [0])))
SQUARE = (vector(-4, -4), vector(4, 4), ())
SMALL = Fraction(1, 10**9)
HALF = Fraction(1, 2)


def values_times(outputs, clause):
    """How far each bound of a clause is passed by outputs."""
    return [sum(w * x for w, x in zip(fractions(line), fractions(outputs))) - fraction(limit) for line, limit in clause]


def is_right(network, region, centre, claim, answer):
    """Whether an answer "radius" is right, worked out by Python's own fractions."""
    plain = flatten(network)
    _, radius, papers, near, far, phases = answer
    for point in (near, far):
        if not lies_in(region, point):
            return False
        values = bent_by(plain, point)
        if len(values) != len(phases) or any(x < 0 if phase else x > 0 for x, phase in zip(values, phases)):
            return False
    if max(abs(a - b) for a, b in zip(fractions(near), fractions(centre))) != fraction(radius):
        return False
    here, there = outputs_by(plain, near), outputs_by(plain, far)
    if not any(all(x >= 0 for x in values_times(here, clause)) and all(x > 0 for x in values_times(there, clause))
               for clause in claim):
        return False
    r = fraction(radius)
    part = (vector(*[max(a, c - r) for a, c in zip(fractions(region[0]), fractions(centre))]),
            vector(*[min(a, c + r) for a, c in zip(fractions(region[1]), fractions(centre))]), region[2])
    return len(papers) == len(claim) and all(is_paper_by(plain, part, clause, paper)
                                             for clause, paper in zip(claim, papers))


class PartsTest(unittest.TestCase):
    def test_reach(self):
        self.assertEqual(reach(vector(1, 2), vector(4, 0)), (3, 1))
        self.assertEqual(reach(vector(1, 2), vector(0, HALF)), (3, 2))
        self.assertEqual(reach(vector(1, 2), vector(1, 2)), (0, 1))
        self.assertEqual(reach(vector(-1), vector(-3)), (2, 1))
        self.assertEqual(reach(vector(0, 0, 0), vector(Fraction(1, 3), Fraction(-1, 2), Fraction(2, 5))), (1, 2))

    def test_within_radius(self):
        bounds = (bound([1, 1], 3),)
        region = (vector(-1, 0), vector(5, 5), bounds)
        kept = copy.deepcopy(region)
        self.assertEqual(within_radius(region, vector(1, 1), (1, 2)),
                         (vector(HALF, HALF), vector(3 * HALF, 3 * HALF), bounds))
        self.assertEqual(within_radius(region, vector(1, 1), (3, 1)), (vector(-1, 0), vector(4, 4), bounds))
        self.assertEqual(within_radius(region, vector(1, 1), (0, 1)), (vector(1, 1), vector(1, 1), bounds))
        self.assertEqual(within_radius(region, vector(1, 1), (100, 1)), region)
        self.assertEqual(within_radius(region, vector(5, 0), (2, 1)), (vector(3, 0), vector(5, 2), bounds))
        self.assertEqual(region, kept)

    def test_drawn(self):
        draw = Draw(200)
        for _ in range(100):
            size = draw.integer(1, 3)
            region = draw.region(size)
            centre, point = draw.point(size), draw.point(size)
            radius = draw.ratio()
            radius = (abs(radius[0]), radius[1])
            far = max(abs(a - b) for a, b in zip(fractions(centre), fractions(point)))
            self.assertEqual(reach(centre, point), ratio(far))
            self.assertEqual(lies_in(within_radius(region, centre, radius), point),
                             lies_in(region, point) and far <= fraction(radius))


class SteadyTest(unittest.TestCase):
    def assert_steady(self, network, region, centre, claim, expected):
        """The answer; `expected` is "never", "always", a radius or None."""
        handed = copy.deepcopy((network, region, centre, claim))
        answer = steady(network, region, centre, claim)
        self.assertEqual((network, region, centre, claim), handed)
        self.assertIs(judge_steady(network, region, centre, claim, answer), True)
        self.assertEqual((network, region, centre, claim), handed)
        if answer[0] == "never":
            self.assertEqual(answer, ("never",))
            self.assertFalse(holds_by(claim, outputs_by(network, centre)))
        elif answer[0] == "always":
            self.assertEqual(len(answer), 2)
            self.assertIs(judge(network, region, claim, answer[1]), True)
        else:
            self.assertEqual((answer[0], len(answer)), ("radius", 6))
            self.assertTrue(is_right(network, region, centre, claim, answer))
        if expected is not None:
            self.assertEqual(answer[0] if isinstance(expected, str) else fraction(answer[1]), expected)
        return answer

    def test_three_answers(self):
        claim = ((bound([1], 2),),)
        self.assert_steady(ONE_UNIT, SPAN, vector(0), claim, 3)
        self.assert_steady(ONE_UNIT, SPAN, vector(2), claim, 1)
        self.assert_steady(ONE_UNIT, SPAN, vector(-5), claim, 8)
        self.assert_steady(ONE_UNIT, SPAN, vector(5), claim, "never")
        self.assert_steady(ONE_UNIT, SPAN, vector(3 + SMALL), claim, "never")
        self.assert_steady(ONE_UNIT, (vector(-5), vector(3), ()), vector(0), claim, "always")
        self.assert_steady(ONE_UNIT, (vector(-5), vector(3 + SMALL), ()), vector(0), claim, 3)
        self.assert_steady(ONE_UNIT, SPAN[:2] + ((bound([2], 6),),), vector(0), claim, "always")

    def test_radius_of_zero(self):
        self.assert_steady(ONE_UNIT, SPAN, vector(3), ((bound([1], 2),),), 0)
        self.assert_steady(ONE_UNIT, SPAN, vector(1), ((bound([1], 0),),), 0)
        self.assert_steady(ONE_UNIT, SPAN, vector(1 - SMALL), ((bound([1], 0),),), SMALL)
        self.assert_steady(SUM, SQUARE, vector(0, 0), ((bound([1], 0),),), 0)
        self.assert_steady(SUM, SQUARE, vector(1, 0), ((bound([1], 1), bound([1], 1)),), 0)
        # It holds on the line alone, and the region is the line.
        line = SQUARE[:2] + ((bound([1, 1], 0), bound([-1, -1], 0)),)
        both = (2, (sums([[1, 1]], [0]),))
        self.assert_steady(both, line, vector(1, -1), ((bound([1], 0),), (bound([-1], 0),)), "always")
        self.assert_steady(both, SQUARE, vector(1, -1), ((bound([1], 0),), (bound([-1], 0),)), 0)

    def test_both_sides(self):
        # |x| + |y| is at most 3; the reach takes the greater coordinate.
        claim = ((bound([1], 3),),)
        self.assert_steady(SUM, SQUARE, vector(0, 0), claim, Fraction(3, 2))
        self.assert_steady(SUM, SQUARE, vector(1, 0), claim, 1)
        self.assert_steady(SUM, SQUARE, vector(1, -1), claim, HALF)
        self.assert_steady(SUM, (vector(-4, 0), vector(4, 0), ()), vector(1, 0), claim, 2)
        self.assert_steady(SUM, SQUARE[:2] + ((bound([1, 0], 0),),), vector(0, 1), claim, 1)
        # At least 1: the point 0 breaks it.
        self.assert_steady(SUM, SQUARE, vector(2, 1), ((bound([-1], -1),),), 1)
        self.assert_steady(SUM, SQUARE, vector(0, 4), ((bound([-1], -1),),), Fraction(3, 1))

    def test_centre_on_the_edge(self):
        self.assert_steady(ONE_UNIT, (vector(0), vector(5), ()), vector(0), ((bound([1], 2),),), 3)
        self.assert_steady(SUM, SQUARE, vector(4, -4), ((bound([-1], -6),),), 1)
        self.assert_steady(SUM, SQUARE[:2] + ((bound([1, 1], 0),),), vector(2, -2), ((bound([1], 6),),), 1)

    def test_several_clauses_and_bounds(self):
        # From 0 on, the output x breaks "at most 1 or at least 2" between 1 and 2.
        same = (1, ())
        gap = (bound([1], 1), bound([-1], -2))
        self.assert_steady(same, SPAN, vector(0), (gap,), 1)
        self.assert_steady(same, SPAN, vector(3), (gap,), 1)
        self.assert_steady(same, SPAN, vector(1), (gap,), 0)
        self.assert_steady(same, SPAN, vector(Fraction(3, 2)), (gap,), "never")
        self.assert_steady(same, SPAN, vector(0), (gap, (bound([-1], Fraction(3, 4)),)), Fraction(3, 4))
        self.assert_steady(same, SPAN, vector(0), ((bound([-1], Fraction(3, 2)),), gap), 1)
        self.assert_steady(same, SPAN, vector(0), within(vector(-4), vector(3)), 3)
        self.assert_steady(same, SPAN, vector(-2), within(vector(-4), vector(3)), 2)
        # Bounds that no output keeps with room together: the clause never breaks.
        self.assert_steady(same, SPAN, vector(0), ((bound([1], 1), bound([-1], -1)),), "always")

    def test_empty_claim_and_clause(self):
        self.assert_steady(ONE_UNIT, SPAN, vector(0), (), "always")
        self.assert_steady(ONE_UNIT, SPAN, vector(0), ((),), "never")
        self.assert_steady(ONE_UNIT, SPAN, vector(0), ((bound([1], 2),), ()), "never")

    def test_one_point(self):
        point = (vector(2), vector(2), ())
        self.assert_steady(ONE_UNIT, point, vector(2), ((bound([1], 1),),), "always")
        self.assert_steady(ONE_UNIT, point, vector(2), ((bound([1], 1 - SMALL),),), "never")

    def test_a_break_that_reaches_over_pieces(self):
        # The output is x - 1 in steps of three units; it is above 1/2 from 3/2 on, over all their pieces.
        network = (1, (sums([[1], [1], [1]], [-1, -2, -3]), ("bends", (True,) * 3), sums([[1, 2, 4]], [0])))
        self.assert_steady(network, SPAN, vector(0), ((bound([1], HALF),),), Fraction(3, 2))
        self.assert_steady(network, SPAN, vector(0), ((bound([1], 1),),), 2)
        self.assert_steady(network, SPAN, vector(2), ((bound([1], 1),),), 0)
        # A network that jumps up and down: each dip is a piece of its own.
        saw = (1, (sums([[1]] * 5, [0, -1, -2, -3, -4]), ("bends", (True,) * 5), sums([[1, -2, 2, -2, 2]], [0])))
        for centre, limit, radius in [(0, HALF, HALF), (2, HALF, HALF), (2, Fraction(9, 10), Fraction(9, 10)), (0, 1, 5)]:
            self.assert_steady(saw, (vector(-5), vector(9), ()), vector(centre), ((bound([1], limit),),), radius)

    def test_networks_of_all_kinds(self):
        draw = Draw(201)
        kinds = []
        for _ in range(250):
            network = draw.network(draw.integer(1, 3))
            region = draw.region(network[0])
            centre = draw.pick((draw.point(network[0]), region[0], region[1]))
            if not lies_in(region, centre):
                continue
            here = fractions(outputs_by(network, centre))
            outputs = out_size(network)
            claim = []
            for _ in range(draw.integer(1, 2)):
                clause = []
                for _ in range(draw.integer(1, 2)):
                    line = draw.vector(outputs)
                    room = Fraction(draw.integer(-1, 9), draw.integer(2, 4))
                    clause.append((line, ratio(sum(w * x for w, x in zip(fractions(line), here)) + room)))
                claim.append(tuple(clause))
            kinds.append(self.assert_steady(network, region, centre, tuple(claim), None)[0])
            if kinds[-1] == "radius":
                self.assert_near_breaks(network, region, centre, tuple(claim))
        self.assertGreater(kinds.count("radius"), 30)
        self.assertGreater(kinds.count("always"), 20)
        self.assertGreater(kinds.count("never"), 5)

    def assert_near_breaks(self, network, region, centre, claim):
        """From `near` a little towards `far` the claim breaks."""
        _, _, _, near, far, _ = steady(network, region, centre, claim)
        for share in (Fraction(1, 2), Fraction(1, 10**6)):
            point = vector(*[a + share * (b - a) for a, b in zip(fractions(near), fractions(far))])
            self.assertTrue(lies_in(region, point))
            self.assertFalse(holds_by(claim, outputs_by(network, point)))

    def test_more_units(self):
        draw = Draw(202)
        for size, widths in [(1, [10]), (2, [5, 5]), (3, [4, 4])]:
            network = draw.deep(size, widths)
            region = (vector(*[-2] * size), vector(*[2] * size), ())
            centre = vector(*[0] * size)
            here = fraction(outputs_by(network, centre)[0])
            for room in (Fraction(1, 3), 2):
                self.assert_steady(network, region, centre, within(vector(here - room), vector(here + room)), None)


class JudgeTest(unittest.TestCase):
    CLAIM = ((bound([1], 3),), (bound([-1], 9),))
    CENTRE = vector(1, -1)

    def setUp(self):
        self.answer = steady(SUM, SQUARE, self.CENTRE, self.CLAIM)

    def assert_judged(self, right, answer, network=SUM, region=SQUARE, centre=CENTRE, claim=CLAIM):
        kept = repr((network, region, centre, claim, answer))
        self.assertIs(judge_steady(network, region, centre, claim, answer), right, answer)
        self.assertEqual(repr((network, region, centre, claim, answer)), kept)

    def with_part(self, at, value):
        return self.answer[:at] + (value,) + self.answer[at + 1:]

    def test_right(self):
        self.assert_judged(True, self.answer)
        self.assertEqual(self.answer[1], (1, 2))

    def test_other_right_answers(self):
        # Another break at the same radius, and a farther one on the same piece.
        near, far = vector(3 * HALF, -3 * HALF), vector(4, -4)
        phases = (True, False, False, True)
        self.assert_judged(True, ("radius", (1, 2), self.answer[2], near, far, phases))
        # With the value 0 on the way both phases are right.
        line = (vector(-4, 0), vector(4, 0), ())
        answer = steady(SUM, line, vector(0, 0), self.CLAIM)
        for last in [(True, True), (True, False), (False, True), (False, False)]:
            self.assert_judged(True, answer[:5] + (answer[5][:2] + last,), region=line, centre=vector(0, 0))

    def test_radius(self):
        for radius in [(1, 3), (1, 1), (0, 1), (-1, 2), (2, 4), 0, HALF, None, (1, 2, 3), [1, 2], (True, 2),
                       ratio(HALF + SMALL), ratio(HALF - SMALL)]:
            self.assert_judged(False, self.with_part(1, radius))

    def test_papers(self):
        papers = self.answer[2]
        for wrong in [(), papers[:1], papers[::-1], papers + papers[:1], list(papers), None, (papers[0], None),
                      steady(SUM, SQUARE, vector(0, 0), self.CLAIM)[2]]:
            self.assert_judged(False, self.with_part(2, wrong))

    def test_points(self):
        near, far = self.answer[3:5]
        for wrong in [self.CENTRE, vector(9, -9), vector(-4, 4), vector(0, 0), vector(4), vector(1, 2, 3), None, (), (1, 2),
                      [(4, 1), (-4, 1)], ((8, 2), (-4, 1)), vector(5, -4)]:
            self.assert_judged(False, self.with_part(3, wrong))
            self.assert_judged(False, self.with_part(4, wrong))
        # At `near` the limit is reached, but not passed.
        self.assert_judged(False, self.with_part(4, near))
        self.assert_judged(False, self.answer[:3] + (far, near) + self.answer[5:])

    def test_phases(self):
        phases = self.answer[5]
        for at in range(4):
            for wrong in [not phases[at], None, int(phases[at]), 0, 1, "True"]:
                self.assert_judged(False, self.with_part(5, phases[:at] + (wrong,) + phases[at + 1:]))
        for wrong in [phases[:3], phases + (True,), list(phases), (), None, True]:
            self.assert_judged(False, self.with_part(5, wrong))

    def test_never_and_always(self):
        papers = steady(SUM, SQUARE, self.CENTRE, ((bound([1], 8),), (bound([-1], 9),)))[1]
        loose = ((bound([1], 8),), (bound([-1], 9),))
        self.assert_judged(True, ("always", papers), claim=loose)
        self.assert_judged(False, ("always", papers))
        self.assert_judged(False, ("always", self.answer[2]))
        self.assert_judged(False, ("never",))
        self.assert_judged(False, ("never",), claim=loose)
        strict = ((bound([1], 1),),)
        self.assert_judged(True, ("never",), claim=strict)
        self.assert_judged(False, ("always", ()), claim=strict)
        for wrong in [("never", ()), ["never"], "never", ("never", None), ("always",), ("Never",)]:
            self.assert_judged(False, wrong, claim=strict)
        for wrong in [("always",), ("always", papers, papers), ("always", papers[:1]), ["always", papers], papers]:
            self.assert_judged(False, wrong, claim=loose)

    def test_other_claim_or_centre(self):
        self.assert_judged(False, self.answer, centre=vector(1, -1 - SMALL))
        self.assert_judged(False, self.answer, claim=self.CLAIM[:1])
        self.assert_judged(False, self.answer, claim=((bound([1], 3 - SMALL),), self.CLAIM[1]))
        self.assert_judged(False, self.answer, claim=((bound([1], 3 + SMALL),), self.CLAIM[1]))

    def test_every_bound_counts(self):
        # At `far` each bound of one clause is broken; with one more bound that is kept there it is not.
        claim = ((bound([1], 3), bound([-1], 0)),)
        self.assert_judged(False, ("radius",) + self.answer[1:2] + (self.answer[2][:1],) + self.answer[3:], claim=claim)

    def test_any_value(self):
        for value in JUNK + [list(self.answer), self.answer[:5], self.answer + (None,), ("Radius",) + self.answer[1:]]:
            self.assert_judged(False, value)

    def test_one_place_replaced(self):
        answer = steady(ONE_UNIT, SPAN, vector(0), ((bound([1], 2),),))
        handed = (ONE_UNIT, SPAN, vector(0), ((bound([1], 2),),))
        for junk in JUNK:
            for value in replaced(answer, junk):
                if judge_steady(*handed, value):
                    self.assertTrue(is_right(*handed, value))
                    self.assertEqual(value[1], (3, 1))


class ErrorTest(unittest.TestCase):
    def test_order(self):
        claim = ((bound([1], 2),),)
        for call in (steady, lambda *handed: judge_steady(*handed, None)):
            for value in STRANGE + [(0, ())]:
                with self.assertRaises(BadNetwork):
                    call(value, None, None, None)
            for value in STRANGE + [(vector(0, 0), vector(1, 1), ())]:
                with self.assertRaises(BadRegion):
                    call(ONE_UNIT, value, None, None)
            for value in STRANGE + [vector(6), vector(-5 - SMALL), vector(0, 0), (), [(0, 1)], (0,), ((0, 2),)]:
                with self.assertRaises(BadPoint):
                    call(ONE_UNIT, SPAN, value, None)
            with self.assertRaises(BadPoint):
                call(ONE_UNIT, SPAN[:2] + ((bound([1], -1),),), vector(0), None)
            with self.assertRaises(BadPoint):
                call(ONE_UNIT, (vector(1), vector(0), ()), vector(0), claim)
            for value in STRANGE + [claim[0], ((bound([1, 1], 2),),), list(claim)]:
                with self.assertRaises(BadClaim):
                    call(ONE_UNIT, SPAN, vector(0), value)


if __name__ == "__main__":
    unittest.main()
