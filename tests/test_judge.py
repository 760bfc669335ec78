"""Points 500 to 502: case papers, and papers for a claim."""

import copy
import unittest
from fractions import Fraction

from helpers import JUNK, STRANGE, Draw, bound, replaced, shortened, sums, vector
from kinkmeasure.errors import BadClaim, BadNetwork, BadRegion
from kinkmeasure.flatten import flatten
from kinkmeasure.judge import judge, judge_case
from kinkmeasure.networks import out_size
from kinkmeasure.search import decide
from references import is_paper_by

# The output is x between 0 and 1, by two units with the values x and x - 1.
CLIP = (1, (sums([[1], [1]], [0, -1]), ("bends", (True, True)), sums([[1, -1]], [0])))
REGION = (vector(-1), vector(2), ())
CLAUSE = (bound([1], 1),)
SHARES = vector(1)
# x <= 2; -x <= 1; three bounds of the first unit; three of the second one.
AT_FALSE = ("leaf", vector(0, 0, 1, 0, 0, 1, 0, 0), SHARES)
AT_TRUE = ("leaf", vector(0, 0, 1, 0, 0, 0, 1, 0), SHARES)
BOTH_TRUE = ("leaf", vector(0, 0, 1, 0, 0, 0, 1, 0), SHARES)
TRUE_FALSE = ("leaf", vector(0, 0, 1, 0, 0, 0, 1, 1), SHARES)
PAPER = ("unit", 0, AT_TRUE, AT_FALSE)
DEEP = ("unit", 0, ("unit", 1, BOTH_TRUE, TRUE_FALSE), AT_FALSE)
SMALL = Fraction(1, 10**25)


class CaseTest(unittest.TestCase):
    def assert_case(self, right, paper, clause=CLAUSE, region=REGION, network=CLIP):
        kept = repr((network, region, clause, paper))
        self.assertIs(judge_case(network, region, clause, paper), right, paper)
        self.assertIs(judge(network, region, (clause,), (paper,)), right, paper)
        self.assertEqual(repr((network, region, clause, paper)), kept)

    def test_levels(self):
        self.assert_case(True, PAPER)
        self.assert_case(True, DEEP)

    def test_the_second_unit_first(self):
        # With unit 1 at False its third bound is x - 1 <= 0; unit 0 at False has the output 0 - q <= 0.
        none = ("leaf", vector(0, 0, 1, 0, 0, 1, 0, 0), SHARES)
        zero = ("leaf", vector(0, 0, 1, 0, 0, 0, 1, 0), SHARES)
        low = ("leaf", vector(0, 0, 1, 0, 0, 1, 0, 1), SHARES)
        self.assertIs(is_paper_by(CLIP, REGION, CLAUSE, zero, (False, False)), True)
        other = ("unit", 0, TRUE_FALSE, zero)
        # With unit 1 at True the value of unit 0 is not below 0.
        first = ("unit", 0, BOTH_TRUE, ("leaf", vector(0, 0, 0, 0, 1, 0, 0, 1), vector(0)))
        self.assertIs(is_paper_by(CLIP, REGION, CLAUSE, first, (None, True)), True)
        self.assert_case(True, ("unit", 1, first, other))
        self.assert_case(False, ("unit", 1, other, first))
        for wrong in (none, low):
            self.assert_case(False, ("unit", 1, first, ("unit", 0, TRUE_FALSE, wrong)))

    def test_a_leaf_alone(self):
        # Without cases p <= 2/3 (x + 1) alone is known, so the output may be 4/3 at 1.
        self.assert_case(False, AT_TRUE)
        self.assert_case(False, AT_FALSE)
        self.assert_case(True, ("leaf", vector(Fraction(2, 3), 0, 0, 0, 1, 1, 0, 0), SHARES), (bound([1], 2),))
        self.assert_case(False, ("leaf", vector(Fraction(2, 3), 0, 0, 0, 1, 1, 0, 0), SHARES), (bound([1], 2 - SMALL),))

    def test_exchanged_cases(self):
        self.assert_case(False, ("unit", 0, AT_FALSE, AT_TRUE))
        self.assert_case(False, ("unit", 0, AT_TRUE, AT_TRUE))
        self.assert_case(False, ("unit", 0, AT_FALSE, AT_FALSE))
        self.assert_case(False, ("unit", 0, ("unit", 1, TRUE_FALSE, BOTH_TRUE), AT_FALSE))
        self.assert_case(False, ("unit", 1, AT_TRUE, AT_FALSE))

    def test_other_clause_or_region_or_network(self):
        self.assert_case(True, PAPER, (bound([1], 2),))
        self.assert_case(False, PAPER, (bound([1], 1 - SMALL),))
        self.assert_case(False, PAPER, (bound([2], 2),))
        self.assert_case(False, PAPER, ())
        self.assert_case(False, PAPER, (bound([1], 1), bound([1], 1)))
        self.assert_case(False, PAPER, region=REGION[:2] + ((bound([1], 2),),))
        other = (1, (sums([[1], [1]], [0, -1 - SMALL]), ("bends", (True, True)), sums([[1, -1]], [0])))
        self.assert_case(False, PAPER, network=other)
        self.assert_case(False, PAPER, network=(1, (sums([[1]], [0]),)))

    def test_units_that_are_not_open(self):
        self.assert_case(False, ("unit", 0, ("unit", 0, AT_TRUE, AT_TRUE), AT_FALSE))
        self.assert_case(False, ("unit", 0, AT_TRUE, ("unit", 0, AT_FALSE, AT_FALSE)))
        self.assert_case(False, ("unit", 1, ("unit", 1, AT_TRUE, AT_TRUE), AT_FALSE))
        # Each leaf is right where it stands, but the unit was asked before.
        self.assert_case(False, ("unit", 0, ("unit", 0, AT_TRUE, AT_FALSE), AT_FALSE))
        self.assert_case(False, ("unit", 0, AT_TRUE, ("unit", 0, AT_TRUE, AT_FALSE)))

    def test_units_that_there_are_not(self):
        for k in [2, -1, -2, 3, 10**30, True, False, None, "0", 0.0, (0,), [0], (0, 1)]:
            self.assert_case(False, ("unit", k, AT_TRUE, AT_FALSE))
        self.assert_case(False, ("unit", 0, ("unit", True, BOTH_TRUE, TRUE_FALSE), AT_FALSE))

    def test_other_forms(self):
        for paper in STRANGE + [(), ("leaf",), ("unit",), ("unit", 0), ("unit", 0, AT_TRUE), PAPER + (None,),
                                ("unit", 0, AT_TRUE, AT_FALSE, AT_FALSE), list(PAPER), ("case",) + PAPER[1:],
                                (PAPER,), ("unit", 0, list(AT_TRUE), AT_FALSE), ("unit", 0, [], AT_FALSE),
                                ("leaf", AT_TRUE[1]), AT_TRUE + ((),), ("unit", 0, AT_TRUE, None),
                                ("Unit", 0, AT_TRUE, AT_FALSE), (b"unit", 0, AT_TRUE, AT_FALSE), 0, 10**400]:
            self.assert_case(False, paper)

    def test_one_place_replaced(self):
        for junk in JUNK:
            for paper in replaced(DEEP, junk):
                self.assert_case(is_paper_by(CLIP, REGION, CLAUSE, paper), paper)

    def test_one_place_taken_away_or_doubled(self):
        for paper in shortened(DEEP):
            self.assert_case(is_paper_by(CLIP, REGION, CLAUSE, paper), paper)

    def test_empty_clause(self):
        none = (vector(2), vector(1), ())
        self.assert_case(True, ("leaf", vector(1, 1, 0, 0, 0, 0, 0, 0), ()), (), none)
        self.assert_case(False, ("leaf", vector(1, 1, 0, 0, 0, 0, 0, 0), vector(0)), (), none)
        self.assert_case(True, ("leaf", vector(1, 1, 0, 0, 0, 0, 0, 0), vector(0)), CLAUSE, none)
        self.assert_case(False, ("leaf", vector(1, 1, 0, 0, 0, 0, 0, 0), ()), (), (vector(1), vector(1), ()))
        self.assert_case(False, ("leaf", vector(*[0] * 8), ()), (), none)

    def test_case_of_no_point(self):
        # From 1 on, both units are bent, so the case False has no point and shows whatever is asked.
        high = (vector(1), vector(2), ())
        clause = (bound([1], 1),)
        other = ("leaf", vector(0, 1, 0, 0, 1, 0, 0, 0), vector(0))
        self.assert_case(False, ("unit", 0, AT_TRUE, ("leaf", vector(0, 1, 0, 0, 1, 0, 0, 0), vector(1))), clause, high)
        self.assert_case(True, ("unit", 0, AT_TRUE, other), clause, high)
        self.assert_case(False, ("unit", 0, AT_TRUE, other), clause, (vector(0), vector(2), ()))

    def test_very_deep_papers(self):
        paper = AT_TRUE
        for k in range(5000):
            paper = ("unit", k % 2, paper, AT_FALSE)
        self.assertIs(judge_case(CLIP, REGION, CLAUSE, paper), False)
        for _ in range(5000):
            paper = (paper,)
        self.assertIs(judge_case(CLIP, REGION, CLAUSE, paper), False)
        self.assertIs(judge_case(CLIP, REGION, CLAUSE, ("leaf", paper, SHARES)), False)
        self.assertIs(judge_case(CLIP, REGION, CLAUSE, ("unit", 0, paper, AT_FALSE)), False)

    def test_many_units(self):
        # The cases lie deep in each other; each of the units gives x, and the first one is put out.
        many = 60
        network = (1, (sums([[1]] * many, [0] * many), ("bends", (True,) * many), sums([[1] + [0] * (many - 1)], [0])))
        region = (vector(1), vector(2), ())
        clause = (bound([1], 2),)
        start = vector(1, 0)
        paper = ("leaf", start + vector(1, 0, 0) + vector(*[0] * (3 * (many - 1))), SHARES)
        for k in range(many - 1, -1, -1):
            zeros = [0] * (3 * many)
            zeros[3 * k + 2] = 1
            paper = ("unit", k, paper, ("leaf", vector(0, 1) + vector(*zeros), vector(0)))
        self.assertIs(judge_case(network, region, clause, paper), True)

    def test_networks_that_are_not_plain(self):
        draw = Draw(130)
        held = 0
        for _ in range(120):
            network = draw.network(draw.integer(1, 3))
            region = draw.region(network[0])
            claim = draw.claim(out_size(network))
            answer = decide(network, region, claim)
            if answer[0] == "breaks":
                continue
            held += 1
            plain = flatten(network)
            self.assertIs(judge(network, region, claim, answer[1]), True)
            self.assertIs(judge(plain, region, claim, answer[1]), True)
            for clause, paper in zip(claim, answer[1]):
                self.assertIs(judge_case(network, region, clause, paper), True)
                self.assertTrue(is_paper_by(plain, region, clause, paper))
        self.assertGreater(held, 40)


class ClaimTest(unittest.TestCase):
    CLAIM = (CLAUSE, (bound([1], 2), bound([-1], -5)), CLAUSE)
    PAPERS = (PAPER, ("leaf", vector(Fraction(2, 3), 0, 0, 0, 1, 1, 0, 0), vector(1, 0)), DEEP)

    def assert_papers(self, right, papers, claim=None, region=REGION):
        claim = self.CLAIM if claim is None else claim
        kept = repr((region, claim, papers))
        self.assertIs(judge(CLIP, region, claim, papers), right, papers)
        self.assertEqual(repr((region, claim, papers)), kept)

    def test_papers(self):
        self.assert_papers(True, self.PAPERS)
        self.assert_papers(True, (DEEP, self.PAPERS[1], PAPER))

    def test_empty_claim(self):
        self.assert_papers(True, (), ())
        for papers in [(PAPER,), [], None, ((),), 0, "", False]:
            self.assert_papers(False, papers, ())
        self.assert_papers(True, (), (), (vector(2), vector(1), ()))

    def test_too_many_or_too_few(self):
        for papers in [self.PAPERS[:-1], self.PAPERS[1:], self.PAPERS + (PAPER,), (), (PAPER,), PAPER, (self.PAPERS,)]:
            self.assert_papers(False, papers)

    def test_another_order(self):
        self.assert_papers(False, (self.PAPERS[1], self.PAPERS[0], self.PAPERS[2]))
        self.assert_papers(False, (self.PAPERS[0], self.PAPERS[2], self.PAPERS[1]))

    def test_one_wrong(self):
        for at in range(3):
            for wrong in [None, AT_TRUE, (), list(self.PAPERS[at]), ("unit", 0, AT_FALSE, AT_TRUE)]:
                self.assert_papers(False, self.PAPERS[:at] + (wrong,) + self.PAPERS[at + 1:])

    def test_any_value(self):
        for value in JUNK + [list(self.PAPERS), {}, {0: PAPER}]:
            self.assert_papers(False, value)


class ErrorTest(unittest.TestCase):
    def test_order(self):
        for network in STRANGE + [(1, (sums([[1, 2]], [0]),))]:
            with self.assertRaises(BadNetwork):
                judge(network, None, None, None)
            with self.assertRaises(BadNetwork):
                judge_case(network, None, None, None)
        for region in STRANGE + [(vector(0, 0), vector(1, 1), ()), REGION[:2]]:
            with self.assertRaises(BadRegion):
                judge(CLIP, region, None, None)
            with self.assertRaises(BadRegion):
                judge_case(CLIP, region, None, None)
        for claim in STRANGE + [CLAUSE, (CLAUSE, None), ((bound([1, 1], 1),),)]:
            with self.assertRaises(BadClaim):
                judge(CLIP, REGION, claim, None)
        for clause in STRANGE + [(CLAUSE,), CLAUSE[0], (bound([1, 1], 1),)]:
            with self.assertRaises(BadClaim):
                judge_case(CLIP, REGION, clause, None)

    def test_handed_things_stay(self):
        handed = (CLIP, REGION, CLAUSE, DEEP)
        kept = copy.deepcopy(handed)
        judge_case(*handed)
        self.assertEqual(handed, kept)


if __name__ == "__main__":
    unittest.main()
