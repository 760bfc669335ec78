"""Points 1002 and 1003: jobs."""

import unittest
from fractions import Fraction

from helpers import JUNK, Draw, bound, fraction, holds_by, lies_in, outputs_by, ratio, vector
from kinkmeasure.claims import first_place
from kinkmeasure.errors import BadJob, BadNetwork, BadText
from kinkmeasure.flatten import flatten
from kinkmeasure.greatest import greatest
from kinkmeasure.jobs import run_job
from kinkmeasure.judge import judge_case
from kinkmeasure.networks import out_size
from kinkmeasure.papertexts import parse as parse_paper
from kinkmeasure.ratios import parse as parse_ratio
from kinkmeasure.ratios import text
from kinkmeasure.search import decide
from kinkmeasure.texts import parse, text_of

# The greater one of x - 1 and 0.
NETWORK = "network 1\nsums 1\nrow 1 : -1\nbends bend\n"
ENDS = "low 0\nhigh 3\n"
# Two inputs, and two outputs: their sum and the greater one.
PAIR = "network 2\nsums 3\nrow 1 1 : 0\nrow 1 0 : 0\nrow 0 1 : 0\ngreatest 0 1,2\n"
PAIR_ENDS = "low 0 0\nhigh 1 2\n"


def point_in(words):
    return tuple(parse_ratio(word) for word in words)


class AnswerTest(unittest.TestCase):
    def assert_answers(self, written, expected):
        found = run_job(written)
        self.assertIs(type(found), list)
        self.assertEqual(found, expected)

    def test_example(self):
        self.assert_answers(NETWORK + "low 0\nhigh 3\nrun 2\nclaim 1 : 2\n", ["inside 1", "holds"])

    def test_no_questions(self):
        self.assert_answers(NETWORK + ENDS, [])
        self.assert_answers(NETWORK, [])
        self.assert_answers("network 1\n", [])
        for row in ["low 0\n", "high 0\n", "bound 1 : 0\n", "bound 1 : 0\nhigh 2\n"]:
            self.assert_answers(NETWORK + row, [])

    def test_run(self):
        self.assert_answers(NETWORK + ENDS + "run 0\nrun 3\nrun 4\nrun -1/2\nrun 5/2\n",
                            ["inside 0", "inside 2", "outside 3", "outside 0", "inside 3/2"])
        self.assert_answers(PAIR + PAIR_ENDS + "bound 1 1 : 2\nrun 1 1\nrun 1 2\n", ["inside 2 1", "outside 3 2"])
        self.assert_answers("network 1\nlow 0\nhigh 1\nrun 1/3\n", ["inside 1/3"])

    def test_claim(self):
        self.assert_answers(NETWORK + ENDS + "claim 1 : 2\nclaim -1 : 0\nclaim 1 : 1 or -1 : -1\nclaim 2 : 4\n", ["holds"] * 4)
        self.assert_answers(NETWORK + "low 0\nhigh 3\nclaim 1 : 1\n", ["breaks 3"])
        self.assert_answers(NETWORK + "low 3/2\nhigh 3/2\nclaim never\nclaim 1 : 1/3\n", ["breaks 3/2"] * 2)
        self.assert_answers(NETWORK + "low 1\nhigh 0\nclaim never\nclaim 1 : -5\n", ["holds"] * 2)
        self.assert_answers(PAIR + PAIR_ENDS + "claim 1 0 : 3\nclaim 0 1 : 2\nclaim 1 -2 : 0\n", ["holds"] * 3)

    def test_broken_claims(self):
        found = run_job(PAIR + PAIR_ENDS + "claim 1 0 : 1 or 0 1 : 1/2\n")
        words = found[0].split(" ")
        self.assertEqual((len(found), words[0], len(words)), (1, "breaks", 3))
        network, point = parse(PAIR), point_in(words[1:])
        self.assertTrue(lies_in((vector(0, 0), vector(1, 2), ()), point))
        self.assertFalse(holds_by(((bound([1, 0], 1), bound([0, 1], Fraction(1, 2))),), outputs_by(network, point)))

    def test_paper(self):
        found = run_job(NETWORK + ENDS + "paper 1 : 2\n")
        self.assertEqual(found[0], "holds")
        paper = parse_paper("".join(row + "\n" for row in found[1:]))
        self.assertIs(judge_case(parse(NETWORK), (vector(0), vector(3), ()), (bound([1], 2),), paper), True)
        self.assert_answers(NETWORK + ENDS + "paper 1 : 1\nrun 0\n", ["breaks 3", "inside 0"])
        found = run_job(NETWORK + "low 1\nhigh 0\npaper never\n")
        paper = parse_paper("".join(row + "\n" for row in found[1:]))
        self.assertIs(judge_case(parse(NETWORK), (vector(1), vector(0), ()), (), paper), True)
        self.assertTrue(found[1].endswith(" :"))

    def test_papers_of_several_rows(self):
        clip = "network 1\nsums 2\nrow 1 : 0\nrow 1 : -1\nbends bend bend\nsums 1\nrow 1 -1 : 0\n"
        found = run_job(clip + "low -1\nhigh 2\nrun 0\npaper 1 : 1\nrun 1\n")
        self.assertEqual((found[0], found[1], found[-1]), ("inside 0", "holds", "inside 1"))
        self.assertGreater(len(found), 5)
        paper = parse_paper("".join(row + "\n" for row in found[2:-1]))
        self.assertIs(judge_case(parse(clip), (vector(-1), vector(2), ()), (bound([1], 1),), paper), True)

    def test_first(self):
        pair = "network 1\nsums 2\nrow 1 : 0\nrow 0 : 1\n"
        self.assert_answers(pair + "low 0\nhigh 1\nfirst 1\n", ["holds"])
        self.assert_answers(pair + "low 1\nhigh 2\nfirst 0\n", ["holds"])
        self.assert_answers(pair + "low 0\nhigh 0\nfirst 0\n", ["breaks 0"])
        self.assert_answers(pair + "low 2\nhigh 2\nfirst 1\n", ["breaks 2"])
        self.assert_answers(NETWORK + ENDS + "first 0\n", ["holds"])

    def test_most(self):
        self.assert_answers(NETWORK + ENDS + "most 1\n", ["most 2 3"])
        self.assertRegex(run_job(NETWORK + ENDS + "most -2\n")[0], r"^most 0 \S+$")
        self.assert_answers(NETWORK + "low 1\nhigh 0\nmost 1\nmost 0\n", ["empty", "empty"])
        self.assert_answers(PAIR + PAIR_ENDS + "most 1 0\nmost 1 1/2\n", ["most 3 1 2", "most 4 1 2"])
        self.assert_answers("network 2\n" + PAIR_ENDS + "bound 1 1 : 2\nmost 1 2\n", ["most 4 0 2"])

    def test_rows_of_the_region(self):
        for head in ["low 0\nhigh 3\nbound 1 : 1\n", "high 3\nlow 0\nbound 1 : 1\n", "bound 1 : 1\nhigh 3\nlow 0\n",
                     "high 3\nbound 1 : 2\nlow 0\nbound 2 : 2\n"]:
            found = run_job(NETWORK + head + "run 1\nrun 3/2\nmost 1\nclaim 1 : 0\n")
            self.assertEqual(found[:2] + found[3:], ["inside 0", "outside 1/2", "holds"])
            self.assertRegex(found[2], r"^most 0 \S+$")

    def test_drawn(self):
        draw = Draw(380)
        for _ in range(40):
            network = draw.network(draw.integer(1, 2))
            region = draw.region(network[0], draw.integer(0, 1))
            many = out_size(network)
            point = draw.point(network[0])
            claim = tuple(draw.system(many, draw.integer(0, 2)) for _ in range(1))
            line = draw.vector(many)
            index = draw.integer(0, many - 1)
            clause = " or ".join(self.words(row) for row in claim[0]) or "never"
            written = text_of(network) + "".join([
                "low " + self.ratios(region[0]) + "\n", "".join("bound " + self.words(row) + "\n" for row in region[2]),
                "high " + self.ratios(region[1]) + "\n", "run " + self.ratios(point) + "\n", "claim " + clause + "\n",
                f"first {index}\n", "most " + self.ratios(line) + "\n"])
            found = run_job(written)
            inside = "inside" if lies_in(region, point) else "outside"
            self.assertEqual(found[0], inside + " " + self.ratios(outputs_by(network, point)))
            for row, asked in [(found[1], claim), (found[2], first_place(many, index))]:
                self.assertEqual(row.split(" ")[0], decide(network, region, asked)[0])
                if row != "holds":
                    broken = point_in(row.split(" ")[1:])
                    self.assertTrue(lies_in(region, broken))
                    self.assertFalse(holds_by(asked, outputs_by(network, broken)))
            answer = greatest(flatten(network), region, line)
            if answer[0] == "empty":
                self.assertEqual(found[3], "empty")
                continue
            words = found[3].split(" ")
            self.assertEqual(words[:2], ["most", text(answer[1])])
            there = point_in(words[2:])
            self.assertTrue(lies_in(region, there))
            value = sum(fraction(w) * fraction(x) for w, x in zip(line, outputs_by(network, there)))
            self.assertEqual(ratio(value), answer[1])

    def ratios(self, items):
        return " ".join(text(item) for item in items)

    def words(self, row):
        return self.ratios(row[0]) + " : " + text(row[1])


class WrongTest(unittest.TestCase):
    def assert_wrong(self, row, written):
        with self.assertRaises(BadJob) as caught:
            run_job(written)
        self.assertEqual(caught.exception.row, row, written)

    def assert_text(self, row, written):
        with self.assertRaises(BadText) as caught:
            run_job(written)
        self.assertEqual(caught.exception.row, row, written)

    def test_wrong_rows_of_the_network(self):
        self.assert_text(1, "")
        self.assert_text(1, "\n")
        self.assert_text(1, "low 0\nhigh 1\n")
        self.assert_text(1, "what\nlow 0\nhigh 1\n")
        self.assert_text(2, "network 1\n\nlow 0\nhigh 1\n")
        self.assert_text(2, "network 1\nLow 0\nhigh 1\n")
        self.assert_text(2, "network 1\nlows 0\nhigh 1\n")
        self.assert_text(2, "network 1\n low 0\nhigh 1\n")
        self.assert_text(3, "network 1\nsums 1\nlow 0\nhigh 1\nrun 0\n")
        self.assert_text(4, "network 1\nsums 2\nrow 1 : 0\nlow 0\nhigh 1\n")
        self.assert_text(4, "network 1\nsums 1\nrow 1 : 0\nrow 1 : 0\nlow 0\n")
        for value in JUNK:
            if not isinstance(value, str):
                self.assert_text(1, value)

    def test_text_of_a_network_alone(self):
        self.assert_text(1, "network 1")
        self.assert_text(4, "network 1\nsums 1\nrow 1 : 0\nbends bend")
        self.assert_text(3, "network 1\nsums 1\n")
        self.assert_text(2, "network 1\nquestion 1\n")
        with self.assertRaises(BadNetwork) as caught:
            run_job("network 1\nbends bend bend\n")
        self.assertEqual((caught.exception.layer, caught.exception.reason), (0, "size"))

    def test_no_network_comes_ahead_of_wrong_rows(self):
        for rest in ["low 0\nhigh 1\n", "low x\n", "run 1\n", "low 0"]:
            with self.assertRaises(BadNetwork) as caught:
                run_job("network 0\n" + rest)
            self.assertEqual((caught.exception.layer, caught.exception.reason), (-1, "inputs"))
            with self.assertRaises(BadNetwork):
                run_job("network 1\nsums 1\nrow 1 1 : 0\n" + rest)

    def test_none_of_the_table(self):
        for row in ["", "what", "network 1", "sums 1", "row 1 : 0", "bends bend", "greatest 0", "window 1 1 : 0", "LOW 0",
                    " run 0", "Run 0", "runs 0", "claims 1 : 0", "low", "high", "holds", "#", "run\t0"]:
            self.assert_wrong(7, NETWORK + ENDS + row + "\n")
            self.assert_wrong(7, NETWORK + ENDS + row + "\nwhat\n")
            self.assert_wrong(8, NETWORK + ENDS + "run 0\n" + row + "\nrun 0\n")

    def test_other_words(self):
        for row in ["run", "run ", "run 1 2", "run x", "run 1/1", "run 2/4", "run 1 ", "run  1", "run -0", "run 01", "run 1.5",
                    "claim", "claim ", "claim 1", "claim 1 :", "claim : 1", "claim 1 1 : 1", "claim 1 : 1 1", "claim 1 : 1 or",
                    "claim or", "claim or 1 : 1", "claim 1 : 1 or or 1 : 1", "claim 1 : 1 and 1 : 1", "claim never never",
                    "claim never or 1 : 1", "claim 1 : 1 or never", "claim 1: 1", "claim 1 : x", "claim x : 1", "claim 1 : 2/2",
                    "claim  1 : 1", "claim 1  : 1", "claim 1 : 1  or 1 : 1", "claim Never", "claim 1 : 1 or 1 1 : 1",
                    "paper", "paper 1", "paper 1 :", "paper never 1 : 1", "paper 1 : 1 or", "paper 1 1 : 1", "paper x : 1",
                    "first", "first ", "first 1", "first -1", "first 00", "first 01", "first 0 0", "first x", "first 0/1",
                    "first 1000000000", "first +0", "most", "most ", "most 1 1", "most x", "most 1 : 1", "most 2/4", "most  1",
                    "claim " + "9" * 601 + " : 1", "run " + "9" * 601, "most 1/" + "9" * 601]:
            self.assert_wrong(7, NETWORK + ENDS + row + "\n")
            self.assert_wrong(7, NETWORK + ENDS + row + "\nrun 0\nwhat\n")
        pair = PAIR + PAIR_ENDS
        for row in ["run 1", "run 1 1 1", "claim 1 : 1", "claim 1 1 1 : 1", "most 1", "most 1 1 1", "first 2", "paper 1 : 1",
                    "claim 1 1 : 1 or 1 : 1"]:
            self.assert_wrong(9, pair + row + "\n")

    def test_lows_and_highs(self):
        for word in ("low", "high"):
            for rest in ["", " ", " 0 0", " x", " 2/4", " 0 ", "  0", " : 0", " -0"]:
                self.assert_wrong(5, NETWORK + word + rest + "\n")
            self.assert_wrong(6, NETWORK + f"{word} 0\n{word} 0\n")
            self.assert_wrong(7, NETWORK + ENDS + f"{word} 0\n")
            self.assert_wrong(8, NETWORK + ENDS + f"run 0\n{word} 0\n")
            self.assert_wrong(7, PAIR + f"{word} 0\n")
            self.assert_wrong(7, PAIR + f"{word} 0 0 0\n")

    def test_bounds(self):
        for rest in ["", " 1", " 1 :", " : 1", " 1 1 : 1", " 1 : 1 or 1 : 1", " never", " x : 1", " 1 : x", " 1 : 1 1", " 1 : 1 ",
                     " 2/4 : 1"]:
            self.assert_wrong(7, NETWORK + ENDS + "bound" + rest + "\nrun 0\n")
        self.assert_wrong(9, PAIR + PAIR_ENDS + "bound 1 : 1\n")
        # A bound behind a question is wrong.
        for question in ["run 0", "claim 1 : 9", "claim never", "paper 1 : 9", "first 0", "most 1"]:
            self.assert_wrong(9, NETWORK + ENDS + "bound 1 : 1\n" + question + "\nbound 1 : 1\n")

    def test_questions_ahead_of_the_region(self):
        for question in ["run 0", "claim 1 : 9", "claim never", "paper 1 : 9", "first 0", "most 1", "run x", "most"]:
            self.assert_wrong(5, NETWORK + question + "\n" + ENDS)
            self.assert_wrong(6, NETWORK + "low 0\n" + question + "\nhigh 3\n")
            self.assert_wrong(6, NETWORK + "high 3\n" + question + "\nlow 0\n")
            self.assert_wrong(6, NETWORK + "bound 1 : 1\n" + question + "\n" + ENDS)

    def test_ratios_without_a_text(self):
        great = "9" * 400
        long = f"network 1\nsums 1\nrow {great} : 0\nlow 0\nhigh {great}\n"
        self.assertEqual(run_job(long + "run 1\n"), ["inside " + great])
        self.assert_wrong(6, long + f"run {great}\n")
        self.assert_wrong(7, long + f"run 1\nrun {great}\nwhat\n")
        self.assert_wrong(6, long + "most 1\n")
        self.assert_wrong(6, long + "most 1\nrun x\n")
        self.assertEqual(run_job(long + "most -1\n"), ["most 0 0"])
        self.assertEqual(run_job(long + "claim 1 : 0\n"), ["breaks " + great])
        # The claim holds, but the multipliers of its paper are too long.
        small = f"network 1\nsums 1\nrow {great} : 0\nlow 0\nhigh 1\n"
        self.assertEqual(run_job(small + f"claim {great} : {'9' * 600}\nclaim {great} : {'9' * 600} or 1 : 1\n")[0][:6], "breaks")
        self.assertEqual(run_job(small + f"claim -{great} : 0\n"), ["holds"])
        self.assert_wrong(6, small + f"paper -{great} : 0\n")
        self.assert_wrong(7, small + f"claim -{great} : 0\npaper -{great} : 0\n")

    def test_unfinished_rows(self):
        for row in ["low 0", "high 3", "what", "run 0"]:
            if row == "what":
                self.assert_text(5, NETWORK + row)
            else:
                self.assert_wrong(5, NETWORK + row)
            self.assert_wrong(7, NETWORK + ENDS + row)
            self.assert_wrong(8, NETWORK + ENDS + "run 0\n" + row)
        self.assert_wrong(6, NETWORK + "low 0\nhigh 3")
        self.assert_wrong(7, NETWORK + ENDS + " ")
        # A wrong row ahead of the unfinished one is told.
        self.assert_wrong(7, NETWORK + ENDS + "run x\nrun 0")

    def test_the_first_wrong_row(self):
        self.assert_wrong(7, NETWORK + ENDS + "low 0\nrun x\n")
        self.assert_wrong(5, NETWORK + "low x\nhigh x\nrun x\n")


if __name__ == "__main__":
    unittest.main()
