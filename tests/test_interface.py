"""The names and arguments that the document's interface lists, each in its own file."""

import importlib
import inspect
import unittest

FUNCTIONS = {
    "ratios": """is_integer(value) is_ratio(value) make(above, below=1) of(integer) add(one, other)
        subtract(one, other) multiply(one, other) divide(one, other) negative(ratio) absolute(ratio)
        compare(one, other) less(one, other) at_most(one, other) least(ratios) greatest(ratios) total(ratios)
        floor(ratio) ceiling(ratio) nearest(ratio) text(ratio) parse(word)""",
    "vectors": """is_vector(value, *, size=None) is_matrix(value, *, rows=None, columns=None) zero(size)
        unit(size, index) identity(size) dot(one, other) added(one, other) subtracted(one, other)
        scaled(factor, vector) opposite(vector) applied(matrix, vector) combined(vector, matrix)
        multiplied(one, other) column(matrix, index) transposed(matrix) cleared(vector) is_below(one, other)""",
    "networks": """check(network) check_plain(network) sizes(network) out_size(network) passed(layer, vector)
        trail(network, point) run(network, point) is_plain(network) unit_places(network) units(network)""",
    "flatten": "flatten(network)",
    "joining": """affine(matrix, offsets) select(size, indexes) behind(one, other) beside(one, other)
        along(one, other) difference(one, other)""",
    "texts": "text_of(network) parse(written)",
    "systems": """is_bound(value, *, size=None) check_system(size, rows) are_multipliers(value, *, count)
        summed(size, rows, multipliers) check_none(size, rows, multipliers)
        check_limit(size, rows, bound, multipliers)""",
    "simplex": "solve(size, rows) greatest(size, rows, vector)",
    "regions": """is_region(size, value) check_region(size, region) rows_of(region) keeps(bound, vector)
        contains(region, point) point_of(region)""",
    "claims": """is_clause(size, value) check_clause(size, clause) check_claim(size, claim)
        clause_holds(clause, outputs) claim_holds(claim, outputs) first_place(size, index) within(lows, highs)""",
    "ranges": """value_ranges(network, region, phases) unit_ranges(network, region, phases)
        output_ranges(network, region, phases)""",
    "leaves": """leaf_rows(network, region, phases) goal_rows(network, count, clause)
        is_leaf_right(network, region, phases, clause, multipliers, shares)""",
    "judge": "judge_case(network, region, clause, paper) judge(network, region, claim, papers)",
    "search": "decide(network, region, claim)",
    "alike": "alike(one, other, region) judge_alike(one, other, region, papers)",
    "smaller": """value_network(network, k) value_difference(network, k, j) step_made(network, step)
        shorten(network, region) judge_steps(network, region, steps)""",
    "greatest": """greatest(network, region, vector) least(network, region, vector)
        judge_greatest(network, region, vector, answer) judge_least(network, region, vector, answer)""",
    "distance": "distance(one, other, region) judge_distance(one, other, region, answer)",
    "steady": """reach(centre, point) within_radius(region, centre, radius) steady(network, region, centre, claim)
        judge_steady(network, region, centre, claim, answer)""",
    "pieces": "pattern(network, point) piece_rows(network, region, phases) piece_form(network, phases)",
    "copies": """rounded(ratio, n) copy_of(network, grid, scale) copy_distance(network, grid, scale, region)""",
    "code": "check_code(code) run_code(code, inputs)",
    "compiler": """code_of(network, grid, scale, width) place_network(network, grid, scale, place)
        compile_network(network, grid, scale, width, region)
        judge_code(network, grid, scale, width, region, code, papers)""",
    "loops": """check_loop(loop) state_size(loop) is_drift(loop, drift) steered(loop, state) step(loop, state, drift)
        states_of(loop, state, drifts) is_run(loop, states) step_network(loop) unrolled(loop, count)
        with_drifts(loop, region, count) parted(loop, point) swapped(loop, network) widened(loop, gap)""",
    "keeping": """region_claim(region) lands(loop, region, count, target) kept(loop, region)
        stays(loop, start, safe, count) warrant(loop, start, safe, held, count)
        judge_lands(loop, region, count, target, papers) judge_kept(loop, region, papers)
        judge_stays(loop, start, safe, count, papers) judge_warrant(loop, start, safe, shown)""",
    "seeking": "least_box(loop, region) next_box(loop, region) seek(loop, start, safe, *, turns)",
    "papertexts": "rows_of(paper) text_of(paper) parse(written)",
    "jobs": "run_job(written)",
    "volumes": "volume(size, rows)",
    "measures": "measure(network, region, claim)",
    "repair": """repair(network, region, claim) judge_repair(network, region, claim, answer)
        changed(network, change) change_rows(network, claim, points) cost_vector(network)""",
    "reaching": """reaches(loop, start, goal, held, vector, fall) judge_reaches(loop, start, goal, shown)
        most_steps(loop, start, held, vector, fall)""",
}
CLASSES = {
    "KinkError": None, "ByZero": "", "BadRatio": "", "BadPoint": "", "BadJoin": "", "BadNetwork": "layer, reason",
    "BadSystem": "", "BadRegion": "", "BadClaim": "", "BadPaper": "", "BadVector": "", "BadScale": "",
    "BadText": "row", "BadJob": "row", "BadStep": "place", "BadCode": "place", "BadLoop": "reason",
    "BadCount": "", "BadMeasure": "",
}


class InterfaceTest(unittest.TestCase):
    def test_functions(self):
        for name, listed in FUNCTIONS.items():
            module = importlib.import_module("kinkmeasure." + name)
            for entry in listed.replace(")", ")\n").splitlines():
                word, _, arguments = entry.strip().partition("(")
                if word == "":
                    continue
                function = getattr(module, word)
                self.assertTrue(inspect.isfunction(function), (name, word))
                self.assertEqual(function.__module__, module.__name__, word)
                self.assertEqual(str(inspect.signature(function)), "(" + " ".join(arguments.split()), word)

    def test_classes(self):
        module = importlib.import_module("kinkmeasure.errors")
        for name, arguments in CLASSES.items():
            error = getattr(module, name)
            self.assertTrue(inspect.isclass(error))
            self.assertEqual(error.__module__, module.__name__)
            if arguments:
                self.assertEqual(str(inspect.signature(error)), f"({arguments})", name)
            elif arguments == "":
                error()

    def test_code(self):
        module = importlib.import_module("kinkmeasure.code")
        self.assertTrue(inspect.isclass(module.Code))
        self.assertEqual(module.Code.__module__, module.__name__)
        self.assertEqual(str(inspect.signature(module.Code)), "(width, inputs, registers, instructions)")
        self.assertIn("__init__", vars(module.Code))


if __name__ == "__main__":
    unittest.main()
