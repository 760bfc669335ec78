"""Points 208 to 212: texts of networks."""

import copy
import unittest

from helpers import STRANGE, Draw, sums, vector
from kinkmeasure.errors import BadNetwork, BadRatio, BadText
from kinkmeasure.texts import parse, text_of

ALL = (3, (("sums", (((1, 1), (-1, 2), (0, 1)), ((2, 3), (4, 1), (-5, 1))), ((0, 1), (7, 9))),
           ("bends", (True, False)),
           ("greatest", ((0, 1), (1,), (0,))),
           ("window", 2, ((1, 2), (-3, 1)), (-1, 4))))
ALL_TEXT = ("network 3\nsums 2\nrow 1 -1/2 0 : 0\nrow 2/3 4 -5 : 7/9\nbends bend keep\n"
            "greatest 0,1 1 0\nwindow 2 1/2 -3 : -1/4\n")

# Words that are the text of no ratio.
NO_RATIO = ["", "2/4", "3/1", "01", "-0", "1/0", "+1", "1/-2", "a", "1.5", ":", "1" * 601, "\u0661", "1\t", "\t1"]
# Words that are no integer of at most nine digits.
NO_INTEGER = ["", "-1", "+1", "01", "00", "1000000000", "1" * 700, "1/2", "a", "\u0661", "1.0", "1_0", "-0"]


class TextTest(unittest.TestCase):
    def test_examples(self):
        network = (2, (("sums", (((1, 1), (-1, 2)),), ((3, 1),)), ("bends", (True,))))
        self.assertEqual(parse("network 2\nsums 1\nrow 1 -1/2 : 3\nbends bend\n"), network)
        with self.assertRaises(BadText) as caught:
            parse("network 2\nsums 2\nrow 1 -1/2 : 3\n")
        self.assertEqual(caught.exception.row, 4)
        self.assertEqual(text_of((2, (("greatest", ((0, 1), (1,))),))), "network 2\ngreatest 0,1 1\n")

    def test_every_kind(self):
        self.assertEqual(text_of(ALL), ALL_TEXT)
        self.assertEqual(parse(ALL_TEXT), ALL)
        self.assertEqual(text_of((1000, ())), "network 1000\n")
        self.assertEqual(parse("network 1000\n"), (1000, ()))

    def test_there_and_back(self):
        draw = Draw(40)
        for _ in range(200):
            network = draw.network()
            kept = copy.deepcopy(network)
            written = text_of(network)
            self.assertEqual(parse(written), network)
            self.assertEqual(network, kept)
            self.assertTrue(written.endswith("\n"))
            self.assertNotIn("  ", written)

    def test_long_ratios(self):
        most = 10**600 - 1
        network = (1, (("sums", (((most, 1),),), ((1, most),)), ("window", 1, ((-most, most - 1),), (-1, most))))
        self.assertEqual(parse(text_of(network)), network)
        for long in ((10**600, 1), (1, 10**600), (-(10**5000), 1)):
            for layer in [("sums", ((long,),), vector(0)), ("sums", (vector(1),), (long,)),
                          ("window", 1, (long,), (0, 1)), ("window", 1, vector(1), long)]:
                with self.assertRaises(BadRatio):
                    text_of((1, (layer,)))
                with self.assertRaises(BadRatio):
                    text_of((1, (("bends", (True,)), layer)))

    def test_text_of_no_network(self):
        for value in STRANGE + [(0, ()), (1, (None,)), (1, (("bends", (1,)),))]:
            with self.assertRaises(BadNetwork):
                text_of(value)
        wrong = (1, (("sums", (((10**600, 1),),), vector(0)), ("bends", (True, True))))
        with self.assertRaises(BadNetwork) as caught:
            text_of(wrong)
        self.assertEqual((caught.exception.layer, caught.exception.reason), (1, "size"))


class RowTest(unittest.TestCase):
    def assert_wrong(self, written, row):
        with self.assertRaises(BadText, msg=repr(written)) as caught:
            parse(written)
        self.assertEqual(caught.exception.row, row, repr(written))

    def assert_row_wrong(self, row, ahead="network 2\nbends bend keep\n"):
        """The row is wrong behind these rows, whatever stands behind it."""
        place = ahead.count("\n") + 1
        for behind in ("", "bends keep keep\n", "row 1 : 2\n", "wrong\n", "bends"):
            self.assert_wrong(ahead + row + "\n" + behind, place)
        if row != "":
            self.assert_wrong(ahead + row, place)

    def test_first_row(self):
        for row in ["", " ", "network", "network ", "network 2 ", " network 2", "network  2", "network 2 3",
                    "Network 2", "networks 2", "network two", "bends keep", "row 1 : 2", "sums 1", "2",
                    "network\t2", "network 2\r", "net work", "network 2 :", "network 2/1", "#"]:
            self.assert_row_wrong(row, "")
        for word in NO_INTEGER:
            self.assert_row_wrong("network " + word, "")

    def test_kinds_of_rows(self):
        for row in ["", " ", "network 2", "row 1 : 2", "row 1 2 : 3", "bend", "keep", "sum 1", "Sums 1",
                    "max 0,1", "windows 1 1 : 0", "bends\tbend", " bends bend keep", "bends bend keep ",
                    "bends  bend keep", "bends bend  keep", "\tbends bend keep", "bends bend keep\r", ":",
                    "0", "low 1", "# bends", "bends,bend", "greatest0 1"]:
            self.assert_row_wrong(row)
            self.assert_row_wrong(row, ALL_TEXT)
            self.assert_row_wrong(row, "network 2\n")

    def test_sums(self):
        for row in ["sums", "sums ", "sums 0", "sums 1 ", "sums 1 1", "sums  1", "sums 1 :", "sums x"]:
            self.assert_row_wrong(row)
        for word in NO_INTEGER:
            self.assert_row_wrong("sums " + word)

    def test_row(self):
        for row in ["", "row", "row ", "row 1", "row :", "row : 1", "row 1 :", "row 1 : ", "row 1 2", "row 1 : 2 3",
                    "row 1 : 2 ", "row 1  : 2", "row  1 : 2", " row 1 : 2", "row 1 : : 2", "row : 1 : 2",
                    "row 1: 2", "row 1 :2", "row 1 ; 2", "rows 1 : 2", "bends keep keep", "sums 1", "1 : 2",
                    "network 2", "row 1 : 2\r", "row 1,2 : 3", "row 1 2 3", "Row 1 : 2"]:
            self.assert_row_wrong(row, "network 2\nsums 1\n")
            self.assert_row_wrong(row, "network 2\nsums 3\nrow 1 2 : 3\n")
            self.assert_row_wrong(row, ALL_TEXT + "sums 2\nrow 1 2 : 3\n")
        for word in NO_RATIO:
            for row in (f"row {word} : 2", f"row 1 {word} : 2", f"row 1 : {word}", f"row {word} 1 : 2"):
                if row != "row 1 : : 2":
                    self.assert_row_wrong(row, "network 2\nsums 2\n")

    def test_bends(self):
        for row in ["bends", "bends ", "bends True", "bends bend True", "bends Bend", "bends bends", "bends bend,keep",
                    "bends 1", "bends keep 0", "bends :", "bends bend :", "bends bendkeep", "bends be"]:
            self.assert_row_wrong(row)

    def test_greatest(self):
        for row in ["greatest", "greatest ", "greatest ,", "greatest 0,", "greatest ,0", "greatest 0,,1",
                    "greatest 0, 1", "greatest 0 ,1", "greatest 0 ", "greatest  0", "greatest 0;1", "greatest :"]:
            self.assert_row_wrong(row)
        for word in NO_INTEGER:
            for row in (f"greatest {word}", f"greatest 0 {word}", f"greatest 0,{word}", f"greatest {word},7 1"):
                self.assert_row_wrong(row)

    def test_window(self):
        for row in ["window", "window ", "window 1", "window 1 :", "window 1 : 0", "window 1 2 :", "window 1 2 3",
                    "window 1 2 : 3 4", "window 1 2 : : 3", "window : 1 2", "window 1  2 : 3", "window  1 2 : 3",
                    "window 1 2 : 3 ", "window 1 2: 3"]:
            self.assert_row_wrong(row)
        for word in NO_INTEGER:
            self.assert_row_wrong(f"window {word} 1 : 0")
        for word in NO_RATIO:
            for row in (f"window 1 {word} : 0", f"window 1 1 {word} : 0", f"window 1 1 : {word}"):
                self.assert_row_wrong(row)

    def test_nine_digits(self):
        for written, layer, reason in [
                ("network 999999999\n", -1, "inputs"), ("network 0\n", -1, "inputs"), ("network 1001\n", -1, "inputs"),
                ("network 1\ngreatest 999999999\n", 0, "size"), ("network 1\ngreatest 123456789,987654321\n", 0, "size"),
                ("network 1\nwindow 999999999 1 : 0\n", 0, "form"), ("network 1\nwindow 0 1 : 0\n", 0, "form")]:
            with self.assertRaises(BadNetwork, msg=written) as caught:
                parse(written)
            self.assertEqual((caught.exception.layer, caught.exception.reason), (layer, reason), written)
        self.assert_wrong("network 1\nsums 999999999\nrow 1 : 0\n", 4)

    def test_missing_rows(self):
        self.assert_wrong("", 1)
        self.assert_wrong("\n", 1)
        self.assert_wrong("network 2\nsums 1\n", 3)
        self.assert_wrong("network 2\nsums 3\nrow 1 1 : 1\nrow 1 1 : 1\n", 5)
        self.assert_wrong("network 2\nsums 1\nrow 1 1 : 1\nrow 1 1 : 1\n", 4)
        self.assert_wrong(ALL_TEXT + "sums 1\n", 9)

    def test_unfinished_rows(self):
        self.assert_wrong("network 2", 1)
        self.assert_wrong("n", 1)
        self.assert_wrong("network 2\nbends keep keep", 2)
        self.assert_wrong("network 2\n ", 2)
        self.assert_wrong("network 2\nsums 1", 2)
        self.assert_wrong("network 2\nsums 1\nrow 1 1 : 1", 3)
        self.assert_wrong("network 2\nsums 2\nrow 1 1 : 1", 3)
        self.assert_wrong("network 2\nsums 1\nrow 1 1 : 1\nbends keep", 4)
        self.assert_wrong(ALL_TEXT[:-1], 7)
        self.assert_wrong(ALL_TEXT + "bends bend", 8)

    def test_every_cut(self):
        rows = ALL_TEXT.splitlines(True)
        # Behind the rows of the sums layer, and behind each other layer, the text may end.
        whole = ["".join(rows[:many]) for many in (1, 4, 5, 6, 7)]
        for size in range(len(ALL_TEXT) + 1):
            cut = ALL_TEXT[:size]
            if cut in whole:
                self.assertEqual(parse(cut), (3, ALL[1][:whole.index(cut)]))
            else:
                self.assert_wrong(cut, cut.count("\n") + 1)

    def test_first_wrong_row(self):
        self.assert_wrong("network 2\nwrong\nworse", 2)
        self.assert_wrong("network x\nwrong\n", 1)
        self.assert_wrong("network 2\nsums 2\nrow 1 1 : 1\nwrong\nworse\n", 4)
        self.assert_wrong("network 2\n\nbends keep keep\n", 2)
        self.assert_wrong("network 2\nbends keep keep\n\n", 3)

    def test_other_ends_of_rows(self):
        for sign in ("\r", "\x0b", "\x0c", "\x1c", "\x85", "\u2028"):
            self.assert_wrong(f"network 2{sign}bends keep keep\n", 1)
            self.assert_wrong(f"network 2{sign}\n", 1)
            self.assert_wrong(f"network 2\nbends keep{sign}keep\n", 2)

    def test_no_string(self):
        for value in STRANGE + [0, (1, 2), ["network 2\n"], ("network 2\n",)]:
            if not isinstance(value, str):
                self.assert_wrong(value, 1)


class NetworkTest(unittest.TestCase):
    def assert_fault(self, written, layer, reason):
        with self.assertRaises(BadNetwork, msg=written) as caught:
            parse(written)
        self.assertEqual((caught.exception.layer, caught.exception.reason), (layer, reason), written)

    def test_no_network(self):
        self.assert_fault("network 2\nbends keep\n", 0, "size")
        self.assert_fault("network 1\nbends keep\nbends keep bend\n", 1, "size")
        self.assert_fault("network 2\nsums 1\nrow 1 : 0\n", 0, "size")
        self.assert_fault("network 2\nsums 2\nrow 1 1 : 0\nrow 1 : 0\n", 0, "form")
        self.assert_fault("network 2\ngreatest 0,2\n", 0, "size")
        self.assert_fault("network 2\ngreatest 1,0\n", 0, "form")
        self.assert_fault("network 2\ngreatest 0,0\n", 0, "form")
        self.assert_fault("network 2\nwindow 1 1 1 1 : 0\n", 0, "size")
        self.assert_fault("network 2\nwindow 1001 1 : 0\n", 0, "form")
        self.assert_fault("network 0\nbends keep keep\n", -1, "inputs")

    def test_wrong_rows_come_first(self):
        for ahead in ("network 2\nbends keep\n", "network 0\n", "network 2\ngreatest 1,0\n",
                      "network 2\nsums 2\nrow 1 1 : 0\nrow 1 : 0\n"):
            with self.assertRaises(BadText) as caught:
                parse(ahead + "wrong\n")
            self.assertEqual(caught.exception.row, ahead.count("\n") + 1)
            with self.assertRaises(BadText) as caught:
                parse(ahead + "bends keep keep")
            self.assertEqual(caught.exception.row, ahead.count("\n") + 1)

    def test_sums_is_read_whole(self):
        network = (1, (sums([[1], [2], [3]], [4, 5, 6]), sums([[1, 1, 1]], [0])))
        self.assertEqual(parse("network 1\nsums 3\nrow 1 : 4\nrow 2 : 5\nrow 3 : 6\nsums 1\nrow 1 1 1 : 0\n"), network)


if __name__ == "__main__":
    unittest.main()
