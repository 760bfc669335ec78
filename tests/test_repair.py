"""Points 1200 to 1203 and point 2, item 2: the least repair."""

import copy
import unittest
from fractions import Fraction

from helpers import (JUNK, STRANGE, Draw, bound, fraction, fractions, holds_by, lies_in, outputs_by, ratio, replaced, shortened,
                     sums, trail_by, vector)
from kinkmeasure.claims import within
from kinkmeasure.errors import BadClaim, BadNetwork, BadRegion
from kinkmeasure.judge import judge
from kinkmeasure.repair import change_rows, changed, cost_vector, judge_repair, repair
from kinkmeasure.search import decide
from references import is_paper_by

HALF = Fraction(1, 2)
# The greater one of x - 1 and 0.
ONE_UNIT = (1, (sums([[1]], [-1]), ("bends", (True,)), sums([[1]], [0])))
SPAN = (vector(0), vector(3), ())
NONE = (vector(1), vector(0), ())
# Two columns, one of them kept as it is, and two outputs.
PAIR = (1, (sums([[1], [2]], [0, 1]), ("bends", (True, False)), sums([[1, 0], [1, 1]], [0, -1])))
LINE = (1, (sums([[2]], [1]),))
AGAINST = ((bound([1], 0),), (bound([-1], -1),))


def rows_by(network, claim, points):
    """The bounds of a change, worked out with fractions."""
    _, matrix, offsets = network[1][-1]
    many = len(matrix) * (len(matrix[0]) + 1)
    rows = []
    for point in points:
        values = trail_by(network, point)
        for ((line, limit),) in claim:
            items = [w * x for w in fractions(line) for x in values[-2] + [Fraction(1)]]
            over = sum(w * x for w, x in zip(fractions(line), values[-1]))
            rows.append((items + [0] * many, fraction(limit) - over))
    for index in range(many):
        for sign in (1, -1):
            line = [0] * (2 * many)
            line[index], line[many + index] = sign, -1
            rows.append((line, Fraction(0)))
    return rows


def sum_of(rows, multipliers):
    """The sum that multipliers make, as a list with the limit last."""
    found = [Fraction(0)] * (len(rows[0][0]) + 1)
    for (line, limit), share in zip(rows, fractions(multipliers)):
        if share:
            found = [x + share * y for x, y in zip(found, list(line) + [limit])]
    return found


class PartsTest(unittest.TestCase):
    def test_changed(self):
        kept = copy.deepcopy(PAIR)
        self.assertEqual(changed(PAIR, vector(1, 2, 3, -1, 0, HALF)),
                         (1, PAIR[1][:2] + (sums([[2, 2], [0, 1]], [3, -HALF]),)))
        self.assertEqual(changed(PAIR, vector(0, 0, 0, 0, 0, 0)), PAIR)
        self.assertEqual(changed(LINE, vector(-2, HALF)), (1, (sums([[0]], [3 * HALF]),)))
        self.assertEqual(PAIR, kept)

    def test_cost_vector(self):
        self.assertEqual(cost_vector(LINE), vector(0, 0, -1, -1))
        self.assertEqual(cost_vector(PAIR), vector(*[0] * 6, *[-1] * 6))

    def test_change_rows(self):
        # At 2 the last layer takes 2; the output is 5 there, and at -1 it is -1.
        self.assertEqual(change_rows(LINE, ((bound([3], 7),), (bound([-1], 0),)), (vector(2), vector(-1))), (
            bound([6, 3, 0, 0], -8), bound([-2, -1, 0, 0], 5), bound([-3, 3, 0, 0], 10), bound([1, -1, 0, 0], -1),
            bound([1, 0, -1, 0], 0), bound([-1, 0, -1, 0], 0), bound([0, 1, 0, -1], 0), bound([0, -1, 0, -1], 0)))
        # At 1 the last layer of the pair takes 1 and 3, and gives 1 and 3.
        found = change_rows(PAIR, ((bound([2, -1], HALF),),), (vector(1),))
        self.assertEqual(found[0], bound([2, 6, 2, -1, -3, -1] + [0] * 6, HALF + 1))
        self.assertEqual(len(found), 13)
        self.assertEqual(found[1], bound([1, 0, 0, 0, 0, 0, -1, 0, 0, 0, 0, 0], 0))
        self.assertEqual(found[2], bound([-1, 0, 0, 0, 0, 0, -1, 0, 0, 0, 0, 0], 0))
        self.assertEqual(found[12], bound([0, 0, 0, 0, 0, -1, 0, 0, 0, 0, 0, -1], 0))

    def test_no_points_and_no_clauses(self):
        sizes = (bound([1, 0, -1, 0], 0), bound([-1, 0, -1, 0], 0), bound([0, 1, 0, -1], 0), bound([0, -1, 0, -1], 0))
        self.assertEqual(change_rows(LINE, ((bound([3], 7),),), ()), sizes)
        self.assertEqual(change_rows(LINE, (), (vector(1),)), sizes)

    def test_drawn_rows(self):
        draw = Draw(410)
        for _ in range(60):
            network = draw.plain(draw.integer(1, 3))
            many = len(network[1][-1][2])
            claim = tuple(draw.system(many, 1)[:1] for _ in range(draw.integer(0, 3)))
            points = tuple(draw.point(network[0]) for _ in range(draw.integer(0, 3)))
            self.assertEqual(change_rows(network, claim, points),
                             tuple(bound(line, limit) for line, limit in rows_by(network, claim, points)))
            change = draw.vector(many * (len(network[1][-1][1][0]) + 1))
            other = changed(network, change)
            for point in points:
                # The bounds say just that the claim holds for the changed network.
                kept = all(sum(x * y for x, y in zip(line, fractions(change))) <= limit
                           for line, limit in rows_by(network, claim, (point,))[:len(claim)])
                self.assertEqual(kept, holds_by(claim, outputs_by(other, point)))


class RepairTest(unittest.TestCase):
    def assert_repaired(self, cost, network, region, claim):
        handed = copy.deepcopy((network, region, claim))
        answer = repair(network, region, claim)
        self.assertEqual((network, region, claim), handed)
        self.assertIs(judge_repair(network, region, claim, answer), True)
        self.assertEqual((answer[0], len(answer)), ("repaired", 6))
        _, other, found, papers, points, multipliers = answer
        self.assertEqual((other[0], other[1][:-1]), (network[0], network[1][:-1]))
        spent = sum(abs(x - y) for row, more in zip(network[1][-1][1], other[1][-1][1])
                    for x, y in zip(fractions(row), fractions(more)))
        spent += sum(abs(x - y) for x, y in zip(fractions(network[1][-1][2]), fractions(other[1][-1][2])))
        self.assertEqual(fraction(found), spent)
        if cost is not None:
            self.assertEqual(spent, cost)
        self.assertEqual(len(papers), len(claim))
        for clause, paper in zip(claim, papers):
            self.assertTrue(is_paper_by(other, region, clause, paper))
        self.assertTrue(all(lies_in(region, point) for point in points))
        rows = rows_by(network, claim, points)
        self.assertEqual(len(multipliers), len(rows))
        self.assertTrue(all(share >= 0 for share in fractions(multipliers)))
        shown = sum_of(rows, multipliers)
        many = (len(shown) - 1) // 2
        self.assertEqual(shown[:-1], [0] * many + [-1] * many)
        self.assertLessEqual(shown[-1], -spent)
        return answer

    def assert_hopeless(self, network, region, claim):
        answer = repair(network, region, claim)
        self.assertEqual((answer[0], len(answer)), ("hopeless", 3))
        self.assertIs(judge_repair(network, region, claim, answer), True)
        self.assertTrue(all(lies_in(region, point) for point in answer[1]))
        rows = rows_by(network, claim, answer[1])
        self.assertEqual(len(answer[2]), len(rows))
        self.assertTrue(all(share >= 0 for share in fractions(answer[2])))
        shown = sum_of(rows, answer[2])
        self.assertEqual(shown[:-1], [0] * (len(shown) - 1))
        self.assertLess(shown[-1], 0)

    def test_claims_that_hold(self):
        for claim in [(), ((bound([1], 2),),), ((bound([1], 9),), (bound([-1], 0),)), ((bound([0], 0),),)]:
            self.assertEqual(self.assert_repaired(0, ONE_UNIT, SPAN, claim)[1], ONE_UNIT)

    def test_worked(self):
        # At 3 the last layer takes 2, so half of a change of the weight is enough.
        self.assertEqual(self.assert_repaired(HALF, ONE_UNIT, SPAN, ((bound([1], 1),),))[1],
                         (1, ONE_UNIT[1][:2] + (sums([[HALF]], [0]),)))
        self.assert_repaired(1, ONE_UNIT, SPAN, ((bound([1], 0),),))
        # Where the unit gives 0 only the offset counts: -1 there, and then 2 w - 1 <= -1.
        self.assert_repaired(2, ONE_UNIT, SPAN, ((bound([1], -1),),))
        self.assert_repaired(1, ONE_UNIT, SPAN, ((bound([-1], -1),),))
        self.assert_repaired(Fraction(3, 2), ONE_UNIT, SPAN, ((bound([-1], -1),), (bound([1], 2),)))
        # 2 x + 1 is to be at most 1 and at least 0 from -1 to 1.
        self.assert_repaired(2, LINE, (vector(-1), vector(1), ()), within(vector(1), vector(1)))
        self.assert_repaired(3 * HALF, LINE, (vector(-1), vector(1), ()), within(vector(HALF), vector(3 * HALF)))

    def test_several_outputs(self):
        region = (vector(0), vector(1), ())
        # The outputs are x and 3 x; at 1 the second one is greater by 2, and the last layer takes 1 and 3.
        self.assert_repaired(Fraction(2, 3), PAIR, region, ((bound([-1, 1], 0),),))
        self.assert_repaired(0, PAIR, region, ((bound([1, -1], 0),),))
        self.assert_repaired(None, PAIR, region, within(vector(0, 0), vector(HALF, HALF)))

    def test_further_bounds_of_the_region(self):
        region = SPAN[:2] + ((bound([1], 2),),)
        self.assert_repaired(0, ONE_UNIT, region, ((bound([1], 1),),))
        self.assert_repaired(HALF, ONE_UNIT, region, ((bound([1], HALF),),))

    def test_one_point(self):
        self.assert_repaired(Fraction(1, 3), (1, (sums([[1]], [0]),)), (vector(3), vector(3), ()), ((bound([1], 2),),))
        self.assert_repaired(1, (1, (sums([[1]], [0]),)), (vector(0), vector(0), ()), ((bound([1], -1),),))

    def test_hopeless(self):
        self.assert_hopeless(ONE_UNIT, SPAN, AGAINST)
        self.assert_hopeless(ONE_UNIT, SPAN, ((bound([0], -1),),))
        self.assert_hopeless(PAIR, SPAN, ((bound([1, -1], 0),), (bound([0, 1], -1),), (bound([-1, 0], -HALF),)))
        self.assert_hopeless(LINE, SPAN, ((bound([1], 5),),) + AGAINST)
        self.assert_hopeless(LINE, (vector(2), vector(2), ()), ((bound([0], -Fraction(1, 10**20)),),))

    def test_nearly_hopeless(self):
        claim = ((bound([1], 1),), (bound([-1], -1),))
        self.assert_repaired(2, ONE_UNIT, SPAN, claim)
        self.assert_hopeless(ONE_UNIT, SPAN, ((bound([1], 1 - Fraction(1, 10**20)),), (bound([-1], -1),)))

    def test_no_points(self):
        for region in [NONE, SPAN[:2] + ((bound([1], -1),),)]:
            for claim in [(), ((bound([1], -9),),), AGAINST, ((bound([0], -1),),)]:
                self.assertEqual(self.assert_repaired(0, ONE_UNIT, region, claim)[1], ONE_UNIT)

    def test_bounds_that_ask_for_nothing(self):
        self.assert_repaired(0, ONE_UNIT, SPAN, ((bound([0], 0),), (bound([0], 5),)))
        self.assert_repaired(HALF, ONE_UNIT, SPAN, ((bound([0], 0),), (bound([7], 7),), (bound([1], 1),)))

    def test_drawn(self):
        draw = Draw(411)
        kinds = []
        for _ in range(60):
            network = draw.deep(draw.integer(1, 2), [draw.integer(1, 3) for _ in range(draw.integer(0, 2))], draw.integer(1, 2))
            region = draw.region(network[0])
            many = len(network[1][-1][2])
            claim = tuple(draw.system(many, 1)[:1] for _ in range(draw.integer(0, 3)))
            kind = repair(network, region, claim)[0]
            kinds.append(kind)
            if kind == "hopeless":
                self.assert_hopeless(network, region, claim)
                continue
            answer = self.assert_repaired(None, network, region, claim)
            self.assertEqual(answer[2] == (0, 1), decide(network, region, claim)[0] == "holds")
            kinds.append(answer[2] != (0, 1))
        self.assertGreater(kinds.count("hopeless"), 3)
        self.assertGreater(kinds.count(True), 10)
        self.assertGreater(kinds.count(False), 5)

    def test_more_units(self):
        draw = Draw(412)
        for size, widths, outputs in [(2, [4, 4], 2), (3, [6], 2), (1, [6, 5], 1), (2, [8], 2)]:
            network = draw.deep(size, widths, outputs)
            region = (vector(*[-1] * size), vector(*[1] * size), ())
            centre = fractions(outputs_by(network, vector(*[0] * size)))
            claim = within(vector(*[x - HALF for x in centre]), vector(*[x + HALF for x in centre]))
            self.assert_repaired(None, network, region, claim)


class JudgeTest(unittest.TestCase):
    CLAIM = ((bound([1], 1),), (bound([-1], 0),))
    REGION = (vector(-1), vector(3), ())

    def setUp(self):
        self.answer = repair(ONE_UNIT, self.REGION, self.CLAIM)
        self.hopeless = repair(ONE_UNIT, self.REGION, AGAINST)

    def assert_judged(self, right, answer, network=ONE_UNIT, region=REGION, claim=CLAIM):
        kept = repr((network, region, claim, answer))
        self.assertIs(judge_repair(network, region, claim, answer), right, answer)
        self.assertEqual(repr((network, region, claim, answer)), kept)

    def put(self, at, value):
        return self.answer[:at] + (value,) + self.answer[at + 1:]

    def test_right(self):
        self.assertEqual(self.answer[:3], ("repaired", (1, ONE_UNIT[1][:2] + (sums([[HALF]], [0]),)), (1, 2)))
        self.assert_judged(True, self.answer)
        self.assert_judged(True, self.hopeless, claim=AGAINST)

    def test_by_hand(self):
        # The point 3 asks for 2 w + o <= -1, of which the half shows the cost 1/2.
        other = (1, ONE_UNIT[1][:2] + (sums([[HALF]], [0]),))
        papers = decide(other, self.REGION, self.CLAIM)[1]
        quarter = Fraction(1, 4)
        multipliers = vector(HALF, 0, 0, 1, quarter, 3 * quarter)
        self.assert_judged(True, ("repaired", other, (1, 2), papers, (vector(3),), multipliers))
        # More points are right as well, also the same one twice.
        more = vector(HALF, 0, 0, 0, 0, 1, quarter, 3 * quarter)
        self.assert_judged(True, ("repaired", other, (1, 2), papers, (vector(3), vector(3)), more))
        self.assert_judged(True, ("repaired", other, (1, 2), papers, (vector(3), vector(0)), more))
        self.assert_judged(False, ("repaired", other, (1, 2), papers, (vector(0), vector(3)), more))
        self.assert_judged(False, ("repaired", other, (1, 2), papers, (vector(3), vector(4)), more))
        # Fewer multipliers show less.
        less = vector(quarter, 0, Fraction(1, 4), Fraction(3, 4), Fraction(3, 8), Fraction(5, 8))
        self.assert_judged(False, ("repaired", other, (1, 2), papers, (vector(3),), less))

    def test_changes_that_cost_more(self):
        for weight, offset in [(0, 0), (Fraction(1, 4), 0), (HALF, Fraction(1, 9)), (0, 1), (0, HALF)]:
            other = (1, ONE_UNIT[1][:2] + (sums([[weight]], [offset]),))
            kind, papers = decide(other, self.REGION, self.CLAIM)
            if kind != "holds":
                continue
            cost = ratio(abs(1 - weight) + abs(offset))
            self.assert_judged(False, ("repaired", other, cost, papers) + self.answer[4:])
            self.assert_judged(False, ("repaired", other, (1, 2), papers) + self.answer[4:])

    def test_another_network(self):
        last = self.answer[1][1][-1]
        for other in [ONE_UNIT, (1, (last,)), (2, self.answer[1][1]), (1, (sums([[2]], [-1]),) + self.answer[1][1][1:]),
                      (1, (sums([[1]], [-1]), ("bends", (False,)), last)), (1, ONE_UNIT[1][:2] + (("bends", (True,)),)),
                      (1, self.answer[1][1] + (("bends", (False,)), sums([[1]], [0]))), (1, self.answer[1][1] + (sums([[1]], [0]),)),
                      (1, ONE_UNIT[1][:2] + (sums([[HALF], [HALF]], [0, 0]),)), (1, ONE_UNIT[1][:2] + (sums([[HALF, 0]], [0]),)),
                      (1, ONE_UNIT[1][:2] + (sums([[HALF]], [0, 0]),)), (1, ONE_UNIT[1][:2] + (sums([[-HALF]], [0]),)),
                      (True, self.answer[1][1]), list(self.answer[1]), (1, list(self.answer[1][1])), None,
                      (1, (sums([[1]], [-1]), ("bends", (1,)), last))]:
            self.assert_judged(False, self.put(1, other))

    def test_another_cost(self):
        for cost in [(1, 1), (1, 3), (0, 1), (-1, 2), (2, 4), HALF, 0.5, None, (1, 2, 3), [1, 2], (True, 2)]:
            self.assert_judged(False, self.put(2, cost))

    def test_other_papers(self):
        papers = self.answer[3]
        for other in [papers[:1], papers[::-1], papers + papers[:1], list(papers), (), None, papers[0],
                      decide(ONE_UNIT, self.REGION, ((bound([1], 2),), self.CLAIM[1]))[1]]:
            self.assert_judged(False, self.put(3, other))

    def test_other_points(self):
        points = self.answer[4]
        self.assertGreater(len(points), 0)
        for other in [(), points + points, list(points), None, points[0], (vector(4),) * len(points),
                      (vector(-2),) * len(points), (vector(3, 3),) * len(points), (None,) * len(points), ((3, 1),) * len(points)]:
            self.assert_judged(False, self.put(4, other))

    def test_other_multipliers(self):
        multipliers = self.answer[5]
        for at in range(len(multipliers)):
            more = fraction(multipliers[at]) + Fraction(1, 7)
            self.assert_judged(False, self.put(5, multipliers[:at] + vector(more) + multipliers[at + 1:]))
        for other in [multipliers[:-1], multipliers + vector(0), list(multipliers), (), None,
                      vector(*[-x for x in fractions(multipliers)]), vector(*[2 * x for x in fractions(multipliers)])]:
            self.assert_judged(False, self.put(5, other))

    def test_another_question(self):
        self.assert_judged(False, self.answer, region=(vector(-1), vector(4), ()))
        self.assert_judged(False, self.answer, region=(vector(-1), vector(2), ()))
        self.assert_judged(False, self.answer, claim=((bound([1], HALF),), (bound([-1], 0),)))
        self.assert_judged(False, self.answer, claim=self.CLAIM[:1])
        self.assert_judged(False, self.answer, claim=self.CLAIM[::-1])
        self.assert_judged(False, self.answer, claim=AGAINST)
        self.assert_judged(False, self.answer, network=(1, ONE_UNIT[1][:2] + (sums([[2]], [0]),)))
        self.assert_judged(False, self.answer, network=LINE)

    def test_hopeless(self):
        _, points, multipliers = self.hopeless
        for answer in [("hopeless", points), self.hopeless + (None,), ("hopeless", (), multipliers), ("hopeless", points, ()),
                       ("hopeless", list(points), multipliers), ("hopeless", (vector(5),) * len(points), multipliers),
                       ("hopeless", points, vector(*[0] * len(multipliers))), ("hopeless", points, multipliers[::-1]),
                       ("hopeless", points, multipliers[:-1]), ("hopeless", points, None), ("hopeless", None, multipliers),
                       ("repaired", points, multipliers), list(self.hopeless), ("hopeless",)]:
            self.assert_judged(False, answer, claim=AGAINST)
        self.assert_judged(False, self.hopeless)
        self.assert_judged(False, self.hopeless, claim=((bound([1], 1),), (bound([-1], -1),)))
        self.assert_judged(False, self.hopeless, region=NONE, claim=AGAINST)
        double = vector(*[2 * x for x in fractions(multipliers)])
        self.assert_judged(True, ("hopeless", points, double), claim=AGAINST)

    def test_other_forms(self):
        for value in JUNK + [self.answer[:5], self.answer + (None,), list(self.answer), (), ("holds",) + self.answer[1:],
                             self.answer[1:]]:
            self.assert_judged(False, value)
            self.assert_judged(False, value, region=NONE)

    def is_right(self, answer):
        """Whether an answer with one place replaced is right, worked out with fractions."""
        if type(answer) is not tuple or len(answer) != 6 or answer[:3] != self.answer[:3] or not answer[0] == "repaired":
            return False
        if repr(answer[1:3]) != repr(self.answer[1:3]) or not judge(answer[1], self.REGION, self.CLAIM, answer[3]):
            return False
        points, multipliers = answer[4:]
        if type(points) is not tuple or any(not is_point(point) or not lies_in(self.REGION, point) for point in points):
            return False
        if not is_vector_by(multipliers) or any(share < 0 for share in fractions(multipliers)):
            return False
        rows = rows_by(ONE_UNIT, self.CLAIM, points)
        if len(rows) != len(multipliers):
            return False
        shown = sum_of(rows, multipliers)
        return shown[:-1] == [0, 0, -1, -1] and shown[-1] <= -HALF

    def test_one_place_replaced(self):
        for junk in JUNK:
            for answer in replaced(self.answer, junk):
                self.assert_judged(self.is_right(answer), answer)
        for answer in shortened(self.answer):
            self.assert_judged(self.is_right(answer), answer)


def is_vector_by(value):
    """Whether a value is a vector."""
    return type(value) is tuple and all(
        type(item) is tuple and len(item) == 2 and all(type(part) is int for part in item) and item[1] > 0
        and ratio(Fraction(*item)) == item for item in value)


def is_point(value):
    return is_vector_by(value) and len(value) == 1


class ErrorTest(unittest.TestCase):
    NOT_PLAIN = [(1, ()), (2, (("greatest", ((0, 1),)),)), (1, (("bends", (True,)),)), (0, ())]

    def test_order(self):
        for call in (repair, lambda *handed: judge_repair(*handed, None)):
            for value in STRANGE + self.NOT_PLAIN:
                with self.assertRaises(BadNetwork):
                    call(value, None, None)
            for value in STRANGE + [(vector(0, 0), vector(1, 1), ()), SPAN[:2]]:
                with self.assertRaises(BadRegion):
                    call(ONE_UNIT, value, None)
            for region in (SPAN, NONE):
                for claim in STRANGE + [((bound([1], 1), bound([1], 2)),), ((),), (bound([1], 1),), ((bound([1, 1], 1),),),
                                        ((bound([1], 1),), ()), ((bound([1], 1),), None), [(bound([1], 1),)],
                                        ((bound([1], 1),), (bound([1], 1), bound([-1], 1)))]:
                    with self.assertRaises(BadClaim):
                        call(ONE_UNIT, region, claim)

    def test_parts(self):
        for value in STRANGE + self.NOT_PLAIN:
            for call in [lambda: changed(value, ()), lambda: cost_vector(value), lambda: change_rows(value, None, ())]:
                with self.assertRaises(BadNetwork):
                    call()
        for claim in [((),), ((bound([1], 1), bound([1], 2)),), ((bound([1, 1], 1),),)]:
            with self.assertRaises(BadClaim):
                change_rows(ONE_UNIT, claim, ())


if __name__ == "__main__":
    unittest.main()
