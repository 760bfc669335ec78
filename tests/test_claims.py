"""Point 401: clauses and claims."""

import copy
import unittest
from fractions import Fraction

from helpers import JUNK, STRANGE, Draw, bound, holds_by, replaced, vector
from kinkmeasure import claims
from kinkmeasure.errors import BadClaim

ABOVE = bound([1, 0], 2)
BELOW = bound([0, -1], Fraction(1, 2))


class FormTest(unittest.TestCase):
    def assert_clause(self, size, value, right):
        kept = repr(value)
        self.assertIs(claims.is_clause(size, value), right, value)
        if right:
            self.assertIsNone(claims.check_clause(size, value))
            self.assertIsNone(claims.check_claim(size, (value, (), value)))
        else:
            for check, handed in [(claims.check_clause, value), (claims.check_claim, ((), value)),
                                  (claims.check_claim, (value,))]:
                with self.assertRaises(BadClaim):
                    check(size, handed)
        self.assertEqual(repr(value), kept)

    def test_clauses(self):
        for value in [(), (ABOVE,), (ABOVE, BELOW), (ABOVE, ABOVE, BELOW)]:
            self.assert_clause(2, value, True)
        self.assert_clause(1, (), True)
        self.assert_clause(3, (bound([1, 2, 3], 4),), True)

    def test_no_clauses(self):
        for value in STRANGE + [ABOVE, [ABOVE], [], (ABOVE, None), (ABOVE, list(BELOW)), ((vector(1, 0),),), 0, 5,
                                ((vector(1, 0), (2, 4)),), ((vector(1, 0), (1, 1), (1, 1)),), (bound([1], 2),),
                                (ABOVE, bound([1, 2, 3], 4)), (((1, 0), (1, 1)),), (([(1, 1), (0, 1)], (1, 1)),),
                                ((((1, 1), (True, 1)), (0, 1)),), ((ABOVE,),), ((vector(1, 0), 1),)]:
            self.assert_clause(2, value, False)
        for size in (1, 3):
            self.assert_clause(size, (ABOVE,), False)

    def test_one_place_replaced(self):
        for junk in JUNK:
            for value in replaced((ABOVE, BELOW), junk):
                if not claims.is_clause(2, value):
                    self.assert_clause(2, value, False)
                else:
                    self.assertIs(claims.clause_holds(value, vector(1, 1)), holds_by((value,), vector(1, 1)))

    def test_claims(self):
        for value in [(), ((),), ((ABOVE,), ()), ((ABOVE, BELOW), (BELOW,))]:
            self.assertIsNone(claims.check_claim(2, value))
        for value in STRANGE + [[], [(ABOVE,)], (ABOVE,), (ABOVE, BELOW), ((ABOVE,), None), ((ABOVE,), [BELOW]), 0,
                                ((ABOVE,), (bound([1], 2),)), (((ABOVE,),),)]:
            with self.assertRaises(BadClaim):
                claims.check_claim(2, value)


class HoldsTest(unittest.TestCase):
    def test_empty(self):
        self.assertIs(claims.clause_holds((), vector(1, 2)), False)
        self.assertIs(claims.claim_holds((), vector(1, 2)), True)
        self.assertIs(claims.claim_holds(((),), vector(1, 2)), False)
        self.assertIs(claims.claim_holds(((ABOVE,), ()), vector(0, 0)), False)

    def test_one_bound_is_enough(self):
        clause = (ABOVE, BELOW)
        for outputs, right in [(vector(2, -5), True), (vector(3, Fraction(-1, 2)), True), (vector(0, 0), True),
                               (vector(Fraction(201, 100), -1), False), (vector(3, -1), False)]:
            self.assertIs(claims.clause_holds(clause, outputs), right)
            self.assertIs(claims.claim_holds((clause,), outputs), right)

    def test_every_clause_is_needed(self):
        claim = ((ABOVE,), (BELOW,))
        for outputs, right in [(vector(2, 0), True), (vector(3, 0), False), (vector(2, -1), False),
                               (vector(3, -1), False)]:
            self.assertIs(claims.claim_holds(claim, outputs), right)

    def test_drawn(self):
        draw = Draw(100)
        found = []
        for _ in range(300):
            size = draw.integer(1, 3)
            claim = draw.claim(size)
            outputs = draw.point(size)
            kept = copy.deepcopy((claim, outputs))
            found.append(claims.claim_holds(claim, outputs))
            self.assertIs(found[-1], holds_by(claim, outputs))
            for clause in claim:
                self.assertIs(claims.clause_holds(clause, outputs), holds_by((clause,), outputs))
            self.assertEqual((claim, outputs), kept)
        self.assertGreater(found.count(True), 50)
        self.assertGreater(found.count(False), 50)


class MadeTest(unittest.TestCase):
    def test_first_place(self):
        self.assertEqual(claims.first_place(3, 1), ((bound([1, -1, 0], 0),), (bound([0, -1, 1], 0),)))
        self.assertEqual(claims.first_place(3, 0), ((bound([-1, 1, 0], 0),), (bound([-1, 0, 1], 0),)))
        self.assertEqual(claims.first_place(2, 1), ((bound([1, -1], 0),),))
        self.assertEqual(claims.first_place(1, 0), ())

    def test_first_place_holds(self):
        draw = Draw(101)
        for _ in range(100):
            size = draw.integer(1, 4)
            outputs = draw.point(size)
            for index in range(size):
                claim = claims.first_place(size, index)
                self.assertIsNone(claims.check_claim(size, claim))
                top = all(Fraction(*outputs[index]) >= Fraction(*item) for item in outputs)
                self.assertIs(claims.claim_holds(claim, outputs), top)

    def test_within(self):
        lows = vector(-1, Fraction(1, 2))
        highs = vector(2, 3)
        self.assertEqual(claims.within(lows, highs), ((bound([1, 0], 2),), (bound([-1, 0], 1),), (bound([0, 1], 3),),
                                                      (bound([0, -1], Fraction(-1, 2)),)))
        self.assertEqual(claims.within(vector(0), vector(0)), ((bound([1], 0),), (bound([-1], 0),)))
        self.assertEqual(claims.within((), ()), ())
        for outputs, right in [(vector(-1, 3), True), (vector(2, Fraction(1, 2)), True), (vector(3, 1), False),
                               (vector(0, 0), False), (vector(-2, 1), False), (vector(0, 4), False)]:
            self.assertIs(claims.claim_holds(claims.within(lows, highs), outputs), right)


if __name__ == "__main__":
    unittest.main()
