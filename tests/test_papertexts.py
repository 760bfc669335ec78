"""Points 1000 and 1001: texts of case papers."""

import unittest

from helpers import JUNK, STRANGE, Draw, bound, sums, vector
from kinkmeasure.errors import BadRatio, BadText
from kinkmeasure.judge import judge_case
from kinkmeasure.papertexts import parse, rows_of, text_of
from kinkmeasure.search import decide

LEAF = ("leaf", vector(0, 1), vector(1))
OTHER = ("leaf", ((1, 2), (-3, 4), (10, 1)), ())
PAPER = ("unit", 3, LEAF, ("unit", 0, OTHER, LEAF))
ROWS = ["unit 3", "leaf 0 1 : 1", "unit 0", "leaf 1/2 -3/4 10 :", "leaf 0 1 : 1"]


def drawn_paper(draw, depth):
    """A paper of drawn ratios with up to so many levels."""
    if depth == 0 or draw.chance(0.3):
        return ("leaf", draw.vector(draw.integer(0, 4)), draw.vector(draw.integer(0, 2)))
    return ("unit", draw.integer(0, 12), drawn_paper(draw, depth - 1), drawn_paper(draw, depth - 1))


class WriteTest(unittest.TestCase):
    def test_rows(self):
        kept = repr(PAPER)
        self.assertEqual(rows_of(PAPER), ROWS)
        self.assertEqual(text_of(PAPER), "".join(row + "\n" for row in ROWS))
        self.assertEqual(repr(PAPER), kept)
        self.assertIs(type(rows_of(LEAF)), list)

    def test_leaves(self):
        self.assertEqual(rows_of(LEAF), ["leaf 0 1 : 1"])
        self.assertEqual(text_of(OTHER), "leaf 1/2 -3/4 10 :\n")
        self.assertEqual(text_of(("leaf", vector(1), vector(0, 1, 2))), "leaf 1 : 0 1 2\n")
        self.assertEqual(text_of(("leaf", (), ())), "leaf :\n")
        self.assertEqual(text_of(("leaf", (), vector(1))), "leaf : 1\n")

    def test_the_paper_for_true_comes_first(self):
        self.assertEqual(rows_of(("unit", 1, ("leaf", vector(1), ()), ("leaf", vector(2), ()))),
                         ["unit 1", "leaf 1 :", "leaf 2 :"])

    def test_great_numbers_of_units(self):
        self.assertEqual(rows_of(("unit", 999999999, LEAF, LEAF))[0], "unit 999999999")
        self.assertEqual(rows_of(("unit", 10**12, LEAF, LEAF))[0], "unit 1000000000000")

    def test_ratios_without_a_text(self):
        most = 10**600
        for ratio in [(most - 1, 1), (1 - most, 1), (1, most - 1)]:
            for paper in [("leaf", (ratio,), ()), ("leaf", (), (ratio,)), ("unit", 0, LEAF, ("leaf", (ratio,), ()))]:
                self.assertEqual(parse(text_of(paper)), paper)
        for ratio in [(most, 1), (-most, 1), (1, most), (most, most + 1)]:
            for paper in [("leaf", (ratio,), ()), ("leaf", (), (ratio,)), ("unit", 0, LEAF, ("leaf", (ratio,), ())),
                          ("unit", 0, ("leaf", (), ((1, 1), ratio)), LEAF)]:
                with self.assertRaises(BadRatio):
                    rows_of(paper)
                with self.assertRaises(BadRatio):
                    text_of(paper)

    def test_values_that_are_no_papers(self):
        for value in STRANGE + [(), ("leaf",), ("leaf", 1, 1), ("leaf", None, ()), ("unit", 0, LEAF), ("unit", None, LEAF, LEAF),
                                ("leaf", ((2, 4),), ()), ("leaf", ((1, 1),), (None,)), list(LEAF)]:
            with self.assertRaises(BadRatio):
                rows_of(value)
            with self.assertRaises(BadRatio):
                text_of(("unit", 0, LEAF, value))


class ParseTest(unittest.TestCase):
    def assert_wrong(self, row, written):
        with self.assertRaises(BadText) as caught:
            parse(written)
        self.assertEqual(caught.exception.row, row, written)

    def test_read_back(self):
        self.assertEqual(parse("".join(row + "\n" for row in ROWS)), PAPER)
        self.assertEqual(parse("leaf :\n"), ("leaf", (), ()))
        self.assertEqual(parse("leaf 1/2 : 3\n"), ("leaf", ((1, 2),), vector(3)))
        draw = Draw(370)
        for _ in range(200):
            paper = drawn_paper(draw, draw.integer(0, 5))
            self.assertEqual(parse(text_of(paper)), paper)
            self.assertEqual(text_of(paper), "".join(row + "\n" for row in rows_of(paper)))

    def test_papers_of_decide(self):
        draw = Draw(371)
        for _ in range(40):
            network = draw.deep(2, [4])
            region = (vector(-1, -1), vector(1, 1), ())
            clause = (bound([1], draw.integer(0, 9)), bound([-1], draw.integer(0, 9)))
            answer = decide(network, region, (clause,))
            if answer[0] == "holds":
                paper = answer[1][0]
                self.assertEqual(parse(text_of(paper)), paper)
                self.assertIs(judge_case(network, region, clause, parse(text_of(paper))), True)

    def test_very_deep(self):
        rows = ["unit 7\n"] * 3000 + ["leaf 1 : 1\n"] * 3001
        paper = parse("".join(rows))
        self.assertEqual("".join(row + "\n" for row in rows_of(paper)), "".join(rows))
        rows = ["unit 7\n", "leaf 1 : 1\n"] * 3000 + ["leaf 1 : 1\n"]
        self.assertEqual(text_of(parse("".join(rows))), "".join(rows))
        self.assert_wrong(6001, "".join(rows[:-1]))

    def test_empty(self):
        self.assert_wrong(1, "")
        self.assert_wrong(1, "\n")
        for value in JUNK:
            if not isinstance(value, str):
                self.assert_wrong(1, value)

    def test_rows_that_are_none(self):
        for row in ["", "leaf", "Leaf 1 : 1", "leaf 1", "leaf 1 1", "leaf 1: 1", "leaf 1 :1", "leaf 1 : 1 ", " leaf 1 : 1",
                    "leaf  1 : 1", "leaf 1  : 1", "leaf 1 :  1", "leaf 1 : 1 : 1", "leaf : : 1", "leaf : :", "leaf 2/4 : 1",
                    "leaf 3/1 : 1", "leaf 1/0 : 1", "leaf -0 : 1", "leaf +1 : 1", "leaf 01 : 1", "leaf 1.5 : 1", "leaf 1 : x",
                    "leaf\t1 : 1", "leaf 1 : 1\r", "leaf1 : 1", "leaf 1 : " + "9" * 601, "leaf :1", "leaf: 1", "leaf : 1 ",
                    "unit", "unit ", "unit 1 2", "unit 01", "unit 00", "unit -1", "unit -0", "unit +1", "unit 1/2", "unit 1.0",
                    "unit x", "unit 1000000000", "unit 0000000001", "Unit 1", "unit  1", " unit 1", "unit 1 ", "unit\t1",
                    "case 1", "1", ":", "unit :", "leaf 1 : 1,2", "unit 1 : 1", "unit \u0661", "leaf \u0661 : 1"]:
            self.assert_wrong(1, row + "\n")
            self.assert_wrong(1, row + "\nleaf : 1\nleaf : 1\n")
            self.assert_wrong(2, "unit 0\n" + row + "\nleaf : 1\n")
            self.assert_wrong(3, "unit 0\nleaf : 1\n" + row + "\n")
        self.assertEqual(parse("unit 999999999\nleaf :\nleaf :\n"), ("unit", 999999999, ("leaf", (), ()), ("leaf", (), ())))
        self.assertEqual(parse("unit 0\nleaf :\nleaf :\n")[1], 0)
        self.assertEqual(parse("leaf " + "9" * 600 + " : 1\n")[1], ((10**600 - 1, 1),))

    def test_missing_rows(self):
        self.assert_wrong(2, "unit 0\n")
        self.assert_wrong(3, "unit 0\nleaf : 1\n")
        self.assert_wrong(3, "unit 0\nunit 1\n")
        for many in range(5):
            self.assert_wrong(many + 1, "".join(row + "\n" for row in ROWS[:many]))

    def test_too_many_rows(self):
        self.assert_wrong(2, "leaf : 1\nleaf : 1\n")
        self.assert_wrong(2, "leaf : 1\n\n")
        self.assert_wrong(2, "leaf : 1\nunit 0\nleaf : 1\n")
        self.assert_wrong(2, "leaf : 1\nwhat\n")
        self.assert_wrong(4, "unit 0\nleaf : 1\nleaf : 1\nleaf : 1\nleaf : 1\n")
        self.assert_wrong(6, text_of(PAPER) + "leaf : 1\n")

    def test_unfinished_rows(self):
        self.assert_wrong(1, "leaf : 1")
        self.assert_wrong(1, "unit 0")
        self.assert_wrong(2, "unit 0\nleaf : 1")
        self.assert_wrong(3, "unit 0\nleaf : 1\nleaf : 1")
        self.assert_wrong(2, "leaf : 1\nleaf : 1")
        self.assert_wrong(2, "leaf : 1\n ")
        # A wrong row ahead of the unfinished one is told.
        self.assert_wrong(1, "what\nleaf : 1")
        self.assert_wrong(2, "leaf : 1\nleaf : 1\nleaf : 1")


if __name__ == "__main__":
    unittest.main()
