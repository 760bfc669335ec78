"""Points 1 to 3 over the whole program: one network through all of its parts."""

import copy
import unittest
from fractions import Fraction

from helpers import Draw, fraction, fractions, holds_by, lies_in, outputs_by, ratio, vector
from kinkmeasure.alike import alike
from kinkmeasure.claims import within
from kinkmeasure.code import check_code, run_code
from kinkmeasure.compiler import compile_network, judge_code
from kinkmeasure.copies import copy_distance, copy_of
from kinkmeasure.distance import judge_distance
from kinkmeasure.flatten import flatten
from kinkmeasure.joining import difference
from kinkmeasure.keeping import judge_warrant
from kinkmeasure.loops import states_of, swapped, widened
from kinkmeasure.measures import measure
from kinkmeasure.networks import out_size
from kinkmeasure.repair import judge_repair, repair
from kinkmeasure.search import decide
from kinkmeasure.seeking import seek
from kinkmeasure.smaller import judge_steps, shorten
from kinkmeasure.steady import steady
from test_compiler import grid_points

HALF = Fraction(1, 2)


def claim_around(network, size, width):
    """The claim that no output is farther than the width from what it is in the middle."""
    centre = fractions(outputs_by(network, vector(*[0] * size)))
    return within(vector(*[x - width for x in centre]), vector(*[x + width for x in centre]))


class WholeTest(unittest.TestCase):
    def test_repaired_made_smaller_copied_and_compiled(self):
        draw = Draw(420)
        runs = 0
        for size, widths, outputs in [(1, [3], 1), (2, [3], 1), (2, [3, 2], 2), (1, [2, 2], 2), (2, [4], 1)]:
            network = draw.deep(size, widths, outputs)
            region = (vector(*[-1] * size), vector(*[1] * size), draw.system(size, 1))
            claim = claim_around(network, size, HALF)
            handed = copy.deepcopy((network, region, claim))
            answer = repair(network, region, claim)
            self.assertIs(judge_repair(network, region, claim, answer), True)
            if answer[0] == "hopeless":
                continue
            other = answer[1]
            short, steps = shorten(other, region)
            self.assertEqual(judge_steps(other, region, steps), short)
            grid, scale = draw.integer(2, 4), draw.integer(4, 16)
            told = copy_distance(short, grid, scale, region)
            self.assertIs(judge_distance(short, copy_of(short, grid, scale), region, told), True)
            width = 2
            made = compile_network(short, grid, scale, width, region)
            while made[0] == "wide":
                width += 1
                made = compile_network(short, grid, scale, width, region)
            check_code(made[1])
            self.assertIs(judge_code(short, grid, scale, width, region, made[1], made[2]), True)
            unit = grid * scale ** ((len(short[1]) + 1) // 2)
            for whole, point in grid_points(region, grid):
                word, outputs_found = run_code(made[1], whole)
                self.assertEqual(word, "done")
                wanted = fractions(outputs_by(other, point))
                self.assertTrue(holds_by(claim, outputs_by(other, point)))
                for x, y in zip(outputs_found, wanted):
                    self.assertLessEqual(abs(Fraction(x, unit) - y), fraction(told[1]))
                runs += 1
            self.assertEqual((network, region, claim), handed)
        self.assertGreater(runs, 50)

    def test_measured_and_decided_and_repaired(self):
        draw = Draw(421)
        kinds = []
        for _ in range(30):
            size = draw.integer(1, 2)
            network = draw.deep(size, [draw.integer(1, 4)], draw.integer(1, 2))
            region = (vector(*[-1] * size), vector(*[1] * size), ())
            claim = claim_around(network, size, Fraction(draw.integer(1, 12), 2))
            holds = decide(network, region, claim)[0] == "holds"
            whole, broken = fractions(measure(network, region, claim))
            self.assertEqual(whole, 2**size)
            self.assertEqual(broken == 0, holds)
            answer = repair(network, region, claim)
            self.assertEqual(answer[2] == (0, 1), holds)
            self.assertEqual(measure(answer[1], region, claim)[1], (0, 1))
            centre = vector(*[0] * size)
            self.assertEqual(steady(network, region, centre, claim)[0] == "always", holds)
            kinds.append(holds)
        self.assertGreater(kinds.count(True), 5)
        self.assertGreater(kinds.count(False), 5)

    def test_plain_networks_do_the_same(self):
        draw = Draw(422)
        for _ in range(20):
            network = draw.network(draw.integer(1, 2))
            region = draw.region(network[0])
            plain = flatten(network)
            claim = draw.claim(out_size(network))
            self.assertEqual(measure(network, region, claim), measure(plain, region, claim))
            self.assertEqual(decide(network, region, claim)[0], decide(plain, region, claim)[0])
            self.assertEqual(alike(network, plain, region)[0], "alike")
            nothing = difference(network, plain)
            zero = vector(*[0] * out_size(network))
            self.assertEqual(decide(nothing, region, within(zero, zero))[0], "holds")

    def test_a_copy_in_a_loop(self):
        draw = Draw(423)
        found = 0
        for _ in range(40):
            network = draw.deep(1, [2])
            loop = (network, (((1, 2),),), (((1, 3),),), vector(-HALF), vector(HALF))
            safe = (vector(-6), vector(6), ())
            start = (vector(-1), vector(1), ())
            told = copy_distance(network, 4, 8, safe)
            wide = widened(loop, told[1])
            answer = seek(wide, start, safe, turns=3)
            if answer[0] != "safe":
                continue
            found += 1
            self.assertIs(judge_warrant(wide, start, safe, answer[1]), True)
            other = swapped(loop, copy_of(network, 4, 8))
            for _ in range(3):
                state = vector(draw.integer(-1, 1))
                for one in states_of(other, state, tuple(draw.drift(other) for _ in range(6))):
                    self.assertTrue(lies_in(safe, one))
        self.assertGreater(found, 5)

    def test_many_digits(self):
        great = 10**300
        network = (1, (("sums", (((great, 7),),), ((1, great),)), ("bends", (True,)), ("sums", (((1, great),),), ((0, 1),))))
        region = (vector(0), vector(1), ())
        limit = Fraction(1, 7) + Fraction(1, great**2)
        clause = (((1, 1),), ratio(limit))
        self.assertEqual(decide(network, region, ((clause,),))[0], "holds")
        self.assertEqual(measure(network, region, ((clause,),)), ((1, 1), (0, 1)))
        lower = (((1, 1),), ratio(limit - Fraction(1, great**3)))
        self.assertEqual(decide(network, region, ((lower,),))[0], "breaks")
        self.assertEqual(fraction(measure(network, region, ((lower,),))[1]), Fraction(7, great**3))
        self.assertEqual(repair(network, region, ((clause,),))[2], (0, 1))


if __name__ == "__main__":
    unittest.main()
