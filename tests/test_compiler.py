"""Points 806 to 810 and point 2, item 8: the code of networks, and papers that it never overflows."""

import copy
import unittest
from fractions import Fraction
from itertools import product

from helpers import (JUNK, STRANGE, Draw, bound, fraction, fractions, lies_in, outputs_by, ratio, replaced, shortened, sums,
                     vector)
from kinkmeasure.code import Code, check_code, run_code
from kinkmeasure.compiler import code_of, compile_network, judge_code, place_network
from kinkmeasure.copies import copy_of
from kinkmeasure.errors import BadNetwork, BadRegion, BadScale
from kinkmeasure.greatest import greatest
from kinkmeasure.judge import judge_case
from kinkmeasure.networks import check_plain
from references import is_paper_by

HALF = Fraction(1, 2)
# Two inputs, a layer of one unit and one that is kept, and one output.
SMALL = (2, (sums([[1, HALF], [0, -1]], [HALF, 0]), ("bends", (True, False)), sums([[HALF, 0]], [-1])))
BOX = (vector(-1, -1), vector(1, 1), ())
EMPTY = (vector(1, 0), vector(0, 1), ())
# With the grid 2 and the scale 2 the units are 1/2, 1/4 and 1/8; register 5 is the help register.
SMALL_CODE = (
    ("load", 0, 0), ("load", 1, 1),
    ("set", 2, 2), ("times", 5, 0, 2), ("add", 2, 5), ("times", 5, 1, 1), ("add", 2, 5),
    ("set", 3, 0), ("times", 5, 1, -2), ("add", 3, 5),
    ("bend", 2),
    ("set", 4, -8), ("times", 5, 2, 1), ("add", 4, 5),
    ("give", 4),
)
# What the places of this code give.
SMALL_PLACES = {
    0: (2, (sums([[1, 0]], [0]),)),
    1: (2, (sums([[0, 1]], [0]),)),
    2: (2, (sums([[0, 0]], [HALF]),)),
    3: (2, (sums([[1, 0]], [0]),)),
    4: (2, (sums([[1, 0]], [HALF]),)),
    5: (2, (sums([[0, HALF]], [0]),)),
    6: (2, (sums([[1, HALF]], [HALF]),)),
    7: (2, (sums([[0, 0]], [0]),)),
    8: (2, (sums([[0, -1]], [0]),)),
    9: (2, (sums([[0, -1]], [0]),)),
    11: (2, SMALL[1][:2] + (sums([[0, 0]], [-1]),)),
    12: (2, SMALL[1][:2] + (sums([[HALF, 0]], [0]),)),
    13: (2, SMALL[1][:2] + (sums([[HALF, 0]], [-1]),)),
}


def instructions_by(network, grid, scale):
    """The instructions of the code of a network, worked out with fractions."""
    size, layers = copy_of(network, grid, scale)
    rows = sum(len(layer[2]) for layer in layers if layer[0] == "sums")
    helping = size + rows
    found = [("load", i, i) for i in range(size)]
    taken, free, power = list(range(size)), size, 0
    for layer in layers:
        if layer[0] == "bends":
            found += [("bend", r) for r, flag in zip(taken, layer[1]) if flag]
            continue
        power += 1
        new = list(range(free, free + len(layer[2])))
        for r, row, offset in zip(new, layer[1], layer[2]):
            found.append(("set", r, int(fraction(offset) * grid * scale**power)))
            for s, weight in zip(taken, fractions(row)):
                if weight:
                    found += [("times", helping, s, int(weight * scale)), ("add", r, helping)]
        taken, free = new, free + len(new)
    return tuple(found + [("give", r) for r in taken]), helping + 1


def power_of(network, place, instructions):
    """The number of the layer of sums that a place belongs to, by counting the rows so far."""
    sets = sum(step[0] == "set" for step in instructions[:place + 1])
    number = 0
    for layer in network[1]:
        if layer[0] == "sums" and sets > 0:
            number += 1
            sets -= len(layer[2])
    return number


def grid_points(region, grid):
    """The points of a region on the grid."""
    spans = [range(-(-low.numerator * grid // low.denominator), high.numerator * grid // high.denominator + 1)
             for low, high in zip(fractions(region[0]), fractions(region[1]))]
    for whole in product(*spans):
        point = tuple(ratio(Fraction(x, grid)) for x in whole)
        if lies_in(region, point):
            yield whole, point


class CodeOfTest(unittest.TestCase):
    def assert_code(self, made, width, inputs, registers, instructions):
        self.assertIsInstance(made, Code)
        self.assertEqual((made.width, made.inputs, made.registers), (width, inputs, registers))
        self.assertEqual(made.instructions, instructions)
        self.assertIs(type(made.instructions), tuple)

    def test_written_out(self):
        handed = copy.deepcopy(SMALL)
        self.assert_code(code_of(SMALL, 2, 2, 8), 8, 2, 6, SMALL_CODE)
        self.assertEqual(SMALL, handed)

    def test_one_layer(self):
        network = (3, (sums([[0, 2, -1], [0, 0, 0]], [HALF, 3]),))
        self.assert_code(code_of(network, 1, 1, 5), 5, 3, 6, (
            ("load", 0, 0), ("load", 1, 1), ("load", 2, 2),
            ("set", 3, 1), ("times", 5, 1, 2), ("add", 3, 5), ("times", 5, 2, -1), ("add", 3, 5),
            ("set", 4, 3), ("give", 3), ("give", 4)))

    def test_several_layers(self):
        network = (1, (sums([[1], [2]], [0, 1]), ("bends", (False, True)), sums([[1, 0]], [2]), ("bends", (False,)),
                       sums([[3]], [0])))
        self.assert_code(code_of(network, 1, 2, 20), 20, 1, 6, (
            ("load", 0, 0),
            ("set", 1, 0), ("times", 5, 0, 2), ("add", 1, 5), ("set", 2, 2), ("times", 5, 0, 4), ("add", 2, 5), ("bend", 2),
            ("set", 3, 8), ("times", 5, 1, 2), ("add", 3, 5),
            ("set", 4, 0), ("times", 5, 3, 6), ("add", 4, 5), ("give", 4)))

    def test_integers_that_do_not_fit(self):
        network = (1, (sums([[100]], [-100]),))
        self.assert_code(code_of(network, 1, 1, 2), 2, 1, 3, (
            ("load", 0, 0), ("set", 1, -100), ("times", 2, 0, 100), ("add", 1, 2), ("give", 1)))

    def test_weights_that_the_copy_loses(self):
        network = (1, (sums([[Fraction(1, 5)]], [Fraction(1, 5)]),))
        self.assert_code(code_of(network, 1, 2, 8), 8, 1, 3, (("load", 0, 0), ("set", 1, 0), ("give", 1)))

    def test_drawn(self):
        draw = Draw(320)
        for _ in range(80):
            network = draw.plain()
            grid, scale, width = draw.integer(1, 9), draw.integer(1, 9), draw.integer(2, 200)
            instructions, registers = instructions_by(network, grid, scale)
            self.assert_code(code_of(network, grid, scale, width), width, network[0], registers, instructions)


class PlaceTest(unittest.TestCase):
    def test_written_out(self):
        for place in range(len(SMALL_CODE)):
            if place in SMALL_PLACES:
                self.assertEqual(place_network(SMALL, 2, 2, place), SMALL_PLACES[place], place)
                continue
            with self.assertRaises(BadScale):
                place_network(SMALL, 2, 2, place)

    def test_no_places(self):
        for place in STRANGE + [-1, -2, len(SMALL_CODE), 10**30, (0, 1), 0.0, (0,)]:
            with self.assertRaises(BadScale):
                place_network(SMALL, 2, 2, place)

    def test_places_of_the_copy(self):
        network = (1, (sums([[Fraction(2, 5)]], [Fraction(1, 9)]), ("bends", (True,)), sums([[Fraction(7, 4)]], [0])))
        found = place_network(network, 1, 2, 6)
        self.assertEqual(found, (1, (sums([[HALF]], [0]), ("bends", (True,)), sums([[2]], [0]))))

    def test_values_of_runs(self):
        draw = Draw(321)
        for _ in range(40):
            network = draw.plain(draw.integer(1, 3))
            grid, scale = draw.integer(1, 4), draw.integer(1, 4)
            made = code_of(network, grid, scale, 200)
            whole = tuple(draw.integer(-9, 9) for _ in range(network[0]))
            point = tuple(ratio(Fraction(x, grid)) for x in whole)
            for place, step in enumerate(made.instructions):
                if step[0] in ("bend", "give"):
                    continue
                value = place_network(network, grid, scale, place)
                check_plain(value)
                shown = Code(200, made.inputs, made.registers, made.instructions[:place + 1] + (("give", step[1]),))
                unit = grid * scale ** power_of(network, place, made.instructions)
                self.assertEqual(run_code(shown, whole), ("done", tuple(
                    int(x * unit) for x in fractions(outputs_by(value, point)))))


class CompileTest(unittest.TestCase):
    def assert_compiled(self, network, grid, scale, width, region):
        handed = copy.deepcopy((network, region))
        answer = compile_network(network, grid, scale, width, region)
        self.assertEqual((network, region), handed)
        made = code_of(network, grid, scale, width)
        most, least = 2 ** (width - 1) - 1, -(2 ** (width - 1))
        papers = answer[2] if answer[0] == "code" else None
        seen = 0
        for place, step in enumerate(made.instructions):
            if step[0] in ("bend", "give"):
                continue
            value = place_network(network, grid, scale, place)
            unit = grid * scale ** power_of(network, place, made.instructions)
            if answer[0] == "wide" and answer[1] == place:
                if answer[2] == ():
                    self.assertIn(step[0], ("set", "times"))
                    self.assertFalse(least <= step[-1] <= most)
                else:
                    self.assertTrue(step[0] not in ("set", "times") or least <= step[-1] <= most)
                    self.assertTrue(lies_in(region, answer[2]))
                    self.assertFalse(least <= fraction(outputs_by(value, answer[2])[0]) * unit <= most)
                self.assertEqual(len(answer), 3)
                return answer
            self.assertTrue(step[0] not in ("set", "times") or least <= step[-1] <= most)
            if papers is not None:
                self.assertEqual((type(papers[seen]), len(papers[seen])), (tuple, 2))
                self.assertTrue(is_paper_by(value, region, (bound([1], Fraction(most, unit)),), papers[seen][0]))
                self.assertTrue(is_paper_by(value, region, (bound([-1], Fraction(-least, unit)),), papers[seen][1]))
                seen += 1
            else:
                # The places ahead fit everywhere.
                for sign, limit in [(1, most), (-1, -least)]:
                    found = greatest(value, region, vector(sign))
                    self.assertTrue(found[0] == "empty" or fraction(found[1]) <= Fraction(limit, unit))
        self.assertEqual((answer[0], len(answer), len(papers)), ("code", 3, seen))
        self.assertEqual((answer[1].width, answer[1].inputs, answer[1].registers, answer[1].instructions),
                         (width, made.inputs, made.registers, made.instructions))
        check_code(answer[1])
        self.assertIs(judge_code(network, grid, scale, width, region, answer[1], papers), True)
        return answer

    def test_widths(self):
        # In eighths, place 13 lies between -8 and -8 + 8, and -8 needs four bits; in quarters, 4 + 4 + 2 are 10.
        for width in (2, 3, 4):
            self.assertEqual(self.assert_compiled(SMALL, 2, 2, width, BOX)[0], "wide")
        for width in (5, 6, 200):
            self.assertEqual(self.assert_compiled(SMALL, 2, 2, width, BOX)[0], "code")

    def test_just_suffices(self):
        # The value 3 x + 1 in whole numbers.
        network = (1, (sums([[3]], [1]),))
        for low, high, width, place in [(-2, 2, 4, None), (-2, Fraction(9, 4), 4, 3), (Fraction(-8, 3), 2, 4, None),
                                        (-3, 2, 4, 2), (0, 10, 6, None), (0, 10, 5, 2), (-5, 4, 5, None), (-6, 4, 5, 2)]:
            answer = self.assert_compiled(network, 1, 1, width, (vector(low), vector(high), ()))
            self.assertEqual(answer[1] if answer[0] == "wide" else None, place)

    def test_inputs_that_do_not_fit(self):
        network = (2, (sums([[0, 0]], [0]),))
        self.assertEqual(self.assert_compiled(network, 2, 1, 2, (vector(-1, 0), vector(HALF, 0), ()))[0], "code")
        self.assertEqual(self.assert_compiled(network, 2, 1, 2, (vector(0, 0), vector(0, 1), ()))[1], 1)
        self.assertEqual(self.assert_compiled(network, 2, 1, 2, (vector(-1 - Fraction(1, 10**9), 0), vector(0, 9), ()))[1], 0)

    def test_integers_of_instructions(self):
        # The integer is asked for ahead of the region, and also where the region has no point.
        network = (1, (sums([[0]], [8]), ("bends", (True,)), sums([[7]], [0])))
        self.assertEqual(compile_network(network, 1, 1, 4, SPAN), ("wide", 1, ()))
        self.assertEqual(compile_network(network, 1, 1, 4, NONE), ("wide", 1, ()))
        network = (1, (sums([[-9]], [-8]),))
        self.assertEqual(compile_network(network, 1, 1, 4, NONE), ("wide", 2, ()))
        self.assertEqual(compile_network(network, 1, 1, 4, SPAN), ("wide", 2, ()))
        self.assertEqual(compile_network(network, 1, 1, 4, (vector(9), vector(9), ()))[:2], ("wide", 0))
        self.assertEqual(compile_network((1, (sums([[-8]], [-8]),)), 1, 1, 4, NONE)[0], "code")

    def test_no_points(self):
        for region in [EMPTY, BOX[:2] + ((bound([1, 1], -3),),)]:
            self.assertEqual(self.assert_compiled(SMALL, 2, 2, 8, region)[0], "code")
        self.assertEqual(self.assert_compiled((1, (sums([[1]], [1]),)), 1, 1, 2, NONE)[0], "code")

    def test_further_bounds_of_the_region(self):
        network = (2, (sums([[1, 1]], [0]),))
        self.assertEqual(self.assert_compiled(network, 1, 1, 2, BOX)[0], "wide")
        self.assertEqual(self.assert_compiled(network, 1, 1, 2, BOX[:2] + ((bound([1, 1], 1),),))[0], "code")

    def test_drawn(self):
        draw = Draw(322)
        kinds = []
        for _ in range(60):
            network = draw.plain(draw.integer(1, 2), draw.integer(0, 2))
            region = draw.region(network[0])
            answer = self.assert_compiled(network, draw.integer(1, 4), draw.integer(1, 4), draw.integer(4, 12), region)
            kinds.append(answer[0] if answer[0] == "code" else len(answer[2]))
        self.assertGreater(kinds.count("code"), 10)
        self.assertGreater(kinds.count(0), 5)
        self.assertGreater(len(kinds) - kinds.count(0) - kinds.count("code"), 10)

    def test_runs_on_the_grid(self):
        draw = Draw(323)
        runs = 0
        for _ in range(60):
            network = draw.plain(draw.integer(1, 2), draw.integer(0, 2))
            grid, scale = draw.integer(1, 4), draw.integer(1, 4)
            region = draw.region(network[0])
            answer = compile_network(network, grid, scale, draw.integer(8, 14), region)
            if answer[0] == "wide":
                continue
            other = copy_of(network, grid, scale)
            unit = grid * scale ** ((len(network[1]) + 1) // 2)
            for whole, point in list(grid_points(region, grid))[:60]:
                word, outputs = run_code(answer[1], whole)
                self.assertEqual(word, "done")
                self.assertEqual(tuple(ratio(Fraction(x, unit)) for x in outputs), outputs_by(other, point))
                runs += 1
        self.assertGreater(runs, 300)


SPAN = (vector(-1), vector(1), ())
NONE = (vector(1), vector(0), ())


class JudgeTest(unittest.TestCase):
    # The output is the input where it is positive, and a quarter more.
    NETWORK = (1, (sums([[1]], [0]), ("bends", (True,)), sums([[1]], [Fraction(1, 4)])))

    def setUp(self):
        _, self.code, self.papers = compile_network(self.NETWORK, 2, 2, 6, SPAN)

    def assert_judged(self, right, code, papers, width=6, region=SPAN, grid=2, scale=2):
        self.assertIs(judge_code(self.NETWORK, grid, scale, width, region, code, papers), right)

    def test_right(self):
        self.assert_judged(True, self.code, self.papers)
        self.assert_judged(True, Code(6, 1, 4, self.code.instructions), self.papers)

    def test_code_with_one_thing_changed(self):
        steps = self.code.instructions
        for width, inputs, registers in [(5, 1, 4), (7, 1, 4), (6, 2, 4), (6, 0, 4), (6, 1, 3), (6, 1, 5), (6.0, 1, 4),
                                         (6, True, 4), (6, 1.0, 4), (6, 1, 4.0), (None, 1, 4), (6, "1", 4), (6, 1, [4])]:
            self.assert_judged(False, Code(width, inputs, registers, steps), self.papers)
        for wrong in [steps[:-1], steps[1:], steps + steps[-1:], (), list(steps), None, 0, (steps,)]:
            self.assert_judged(False, Code(6, 1, 4, wrong), self.papers)
        for wrong in shortened(steps):
            self.assert_judged(False, Code(6, 1, 4, wrong), self.papers)
        for junk in JUNK:
            for wrong in replaced(steps, junk):
                if repr(wrong) != repr(steps):
                    self.assert_judged(False, Code(6, 1, 4, wrong), self.papers)

    def test_values_that_are_no_code(self):
        for value in JUNK + [(6, 1, 4, self.code.instructions), self.code.instructions, [self.code]]:
            self.assert_judged(False, value, self.papers)

    def test_papers_with_one_thing_changed(self):
        for wrong in [self.papers[:-1], self.papers[1:], self.papers + self.papers[-1:], (), list(self.papers), None,
                      self.papers[::-1], tuple(pair[::-1] for pair in self.papers), tuple(pair[:1] for pair in self.papers),
                      tuple(paper for pair in self.papers for paper in pair)]:
            self.assert_judged(False, self.code, wrong)
        for junk in JUNK[::3]:
            for wrong in replaced(self.papers, junk):
                self.assert_judged(self.are_right(wrong), self.code, wrong)
        for wrong in shortened(self.papers):
            self.assert_judged(self.are_right(wrong), self.code, wrong)
        for value in JUNK:
            self.assert_judged(False, self.code, value)

    def are_right(self, papers):
        """Whether papers are right, by the judge of single case papers."""
        steps = self.code.instructions
        places = [place for place, step in enumerate(steps) if step[0] not in ("bend", "give")]
        if type(papers) is not tuple or len(papers) != len(places):
            return False
        for place, pair in zip(places, papers):
            if type(pair) is not tuple or len(pair) != 2:
                return False
            value = place_network(self.NETWORK, 2, 2, place)
            unit = 2 * 2 ** power_of(self.NETWORK, place, steps)
            for sign, limit, paper in [(1, 31, pair[0]), (-1, 32, pair[1])]:
                if not judge_case(value, SPAN, (bound([sign], Fraction(limit, unit)),), paper):
                    return False
        return True

    def test_other_region_grid_scale_or_width(self):
        self.assert_judged(False, self.code, self.papers, region=(vector(-99), vector(99), ()))
        self.assert_judged(False, self.code, self.papers, region=SPAN[:2] + ((bound([1], 1),),))
        for grid, scale in [(1, 2), (2, 1), (4, 1), (1, 4)]:
            self.assert_judged(False, self.code, self.papers, grid=grid, scale=scale)
        self.assert_judged(False, self.code, self.papers, width=5)
        self.assert_judged(False, Code(5, 1, 4, self.code.instructions), self.papers, width=4)

    def test_integers_that_do_not_fit(self):
        # The weight 2 is the integer 4 in halves; no value passes 0, so all papers can be found.
        network = (1, (sums([[2]], [0]),))
        point = (vector(0), vector(0), ())
        wide = code_of(network, 1, 2, 3)
        self.assertEqual(compile_network(network, 1, 2, 3, point), ("wide", 2, ()))
        papers = compile_network(network, 1, 2, 4, point)[2]
        self.assertIs(judge_code(network, 1, 2, 4, point, code_of(network, 1, 2, 4), papers), True)
        places = [place_network(network, 1, 2, place) for place in range(4)]
        narrow = []
        for number, value in enumerate(places):
            unit = 1 if number == 0 else 2
            clauses = ((bound([1], Fraction(3, unit)),), (bound([-1], Fraction(4, unit)),))
            slope = fraction(value[1][0][1][0][0])
            narrow.append((("leaf", vector(slope, 0), vector(1)), ("leaf", vector(0, slope), vector(1))))
            for clause, paper in zip(clauses, narrow[-1]):
                self.assertIs(judge_case(value, point, clause, paper), True)
        self.assertIs(judge_code(network, 1, 2, 3, point, wide, tuple(narrow)), False)

    def test_papers_of_others(self):
        # Each leaf by hand: the input lies between -1 and 1, so it is at most 31/2 in halves.
        self.assertIs(judge_case(place_network(self.NETWORK, 2, 2, 0), SPAN, (bound([1], Fraction(31, 2)),),
                                 ("leaf", vector(1, 0), vector(1))), True)
        papers = ((("leaf", vector(1, 0), vector(1)), ("leaf", vector(0, 1), vector(1))),) + self.papers[1:]
        self.assert_judged(True, self.code, papers)


class ErrorTest(unittest.TestCase):
    NOT_PLAIN = [(1, ()), (2, (("greatest", ((0, 1),)),)), (1, (("bends", (True,)),))]
    WRONG = STRANGE + [0, -1, 1001]

    def test_order(self):
        calls = [lambda n, g, s, w, r: code_of(n, g, s, w), compile_network,
                 lambda n, g, s, w, r: judge_code(n, g, s, w, r, None, None)]
        for call in calls:
            for value in STRANGE + self.NOT_PLAIN:
                with self.assertRaises(BadNetwork):
                    call(value, 0, 0, 0, None)
            for value in self.WRONG:
                with self.assertRaises(BadScale):
                    call(SMALL, value, 1, 8, None)
                with self.assertRaises(BadScale):
                    call(SMALL, 1, value, 8, None)
            for value in STRANGE + [-1, 0, 1, 201, 10**9]:
                with self.assertRaises(BadScale):
                    call(SMALL, 1, 1, value, None)
        for call in calls[1:]:
            for value in STRANGE + [(vector(0), vector(1), ())]:
                with self.assertRaises(BadRegion):
                    call(SMALL, 1, 1, 8, value)
        for value in STRANGE + self.NOT_PLAIN:
            with self.assertRaises(BadNetwork):
                place_network(value, 0, 0, None)
        for value in self.WRONG:
            with self.assertRaises(BadScale):
                place_network(SMALL, value, 1, 0)
            with self.assertRaises(BadScale):
                place_network(SMALL, 1, value, 0)


if __name__ == "__main__":
    unittest.main()
