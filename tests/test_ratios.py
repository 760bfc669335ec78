"""Points 101 to 104: ratios, their arithmetic and their texts."""

import itertools
import math
import unittest
from fractions import Fraction

from helpers import JUNK, STRANGE, Draw, fraction, ratio
from kinkmeasure import limits, ratios
from kinkmeasure.errors import BadRatio, ByZero

SMALL = sorted({(a // math.gcd(a, b), b // math.gcd(a, b)) for a in range(-7, 8) for b in range(1, 6)})


def some():
    """Small ratios, and pairs of long ones."""
    draw = Draw(1)
    longs = [draw.long_ratio(figures) for figures in (20, 100, 300, 700) for _ in range(4)]
    return SMALL + longs + [(0, 1), (10**800, 1), (-1, 10**800)]


class KindTest(unittest.TestCase):
    def test_limits(self):
        self.assertEqual((limits.MOST_INPUTS, limits.MOST_FIGURES), (1000, 600))

    def test_constants(self):
        self.assertEqual((ratios.ZERO, ratios.ONE, ratios.HALF), ((0, 1), (1, 1), (1, 2)))

    def test_is_integer(self):
        for value in (0, 1, -1, 10**5000):
            self.assertIs(ratios.is_integer(value), True)
        for value in STRANGE + [(1, 1), ()]:
            self.assertIs(ratios.is_integer(value), False)

    def test_is_ratio(self):
        for value in some():
            self.assertIs(ratios.is_ratio(value), True)
        wrong = [(2, 4), (0, 2), (0, 5), (1, 0), (0, 0), (1, -2), (-1, -2), (True, 1), (1, True),
                 (False, 1), (0, True), (1,), (1, 1, 1), (1.0, 1), (1, 1.0), ("1", 1), [1, 2], 1, 0,
                 (None, 1), (1, None), ((1,), 1), (10**800, 10**800), (3 * 10**800, 6), (6, 3)]
        for value in STRANGE + wrong:
            self.assertIs(ratios.is_ratio(value), False, value)

    def test_is_ratio_of_junk(self):
        for above in JUNK:
            for below in JUNK:
                value = (above, below)
                right = (all(isinstance(x, int) and not isinstance(x, bool) for x in value)
                         and below >= 1 and math.gcd(above, below) == 1)
                self.assertIs(ratios.is_ratio(value), right, value)


class ArithmeticTest(unittest.TestCase):
    def test_examples(self):
        self.assertEqual(ratios.make(6, -4), (-3, 2))
        self.assertEqual(ratios.add((1, 2), (1, 3)), (5, 6))
        self.assertEqual(ratios.nearest((-1, 2)), 0)

    def test_make(self):
        for above in list(range(-12, 13)) + [6 * 10**300, -(10**700)]:
            for below in list(range(-12, 13)) + [4 * 10**300, -(10**200)]:
                if below != 0:
                    self.assertEqual(ratios.make(above, below), ratio(Fraction(above, below)))
        self.assertEqual(ratios.make(5), (5, 1))
        self.assertEqual(ratios.make(above=4, below=-6), (-2, 3))
        self.assertEqual(ratios.make(0, -7), (0, 1))

    def test_make_by_zero(self):
        for above in (0, 1, -5, 10**700):
            with self.assertRaises(ByZero):
                ratios.make(above, 0)

    def test_of(self):
        for integer in (0, 3, -3, 10**700):
            self.assertEqual(ratios.of(integer), (integer, 1))

    def test_two(self):
        values = some()
        for one in values:
            for other in values[::3]:
                a, b = fraction(one), fraction(other)
                self.assertEqual(ratios.add(one, other), ratio(a + b))
                self.assertEqual(ratios.subtract(one, other), ratio(a - b))
                self.assertEqual(ratios.multiply(one, other), ratio(a * b))
                if b != 0:
                    self.assertEqual(ratios.divide(one, other), ratio(a / b))
                self.assertEqual(ratios.compare(one, other), (a > b) - (a < b))
                self.assertIs(ratios.less(one, other), a < b)
                self.assertIs(ratios.at_most(one, other), a <= b)

    def test_divide_by_zero(self):
        for one in some():
            with self.assertRaises(ByZero):
                ratios.divide(one, (0, 1))

    def test_one(self):
        for one in some():
            a = fraction(one)
            self.assertEqual(ratios.negative(one), ratio(-a))
            self.assertEqual(ratios.absolute(one), ratio(abs(a)))
            self.assertEqual(ratios.floor(one), math.floor(a))
            self.assertEqual(ratios.ceiling(one), math.ceil(a))
            self.assertEqual(ratios.nearest(one), math.floor(a + Fraction(1, 2)))

    def test_whole_numbers(self):
        cases = [((-1, 2), -1, 0, 0), ((1, 2), 0, 1, 1), ((-3, 2), -2, -1, -1), ((3, 2), 1, 2, 2),
                 ((-5, 3), -2, -1, -2), ((5, 3), 1, 2, 2), ((-4, 3), -2, -1, -1), ((7, 1), 7, 7, 7),
                 ((-7, 1), -7, -7, -7), ((0, 1), 0, 0, 0), ((-5, 2), -3, -2, -2)]
        for value, floor, ceiling, nearest in cases:
            self.assertEqual(ratios.floor(value), floor)
            self.assertEqual(ratios.ceiling(value), ceiling)
            self.assertEqual(ratios.nearest(value), nearest)

    def test_many(self):
        draw = Draw(2)
        for size in range(1, 9):
            for kind in (tuple, list):
                values = kind(draw.vector(size))
                kept = kind(values)
                plain = [fraction(value) for value in values]
                self.assertEqual(ratios.least(values), ratio(min(plain)))
                self.assertEqual(ratios.greatest(values), ratio(max(plain)))
                self.assertEqual(ratios.total(values), ratio(sum(plain)))
                self.assertEqual(values, kept)
        longs = some()
        self.assertEqual(ratios.total(longs), ratio(sum(fraction(value) for value in longs)))

    def test_total_of_nothing(self):
        self.assertEqual(ratios.total(()), (0, 1))
        self.assertEqual(ratios.total([]), (0, 1))
        self.assertEqual(ratios.total([(1, 2), (-1, 2)]), (0, 1))


class TextTest(unittest.TestCase):
    def test_examples(self):
        self.assertEqual(ratios.text((-3, 2)), "-3/2")
        with self.assertRaises(BadRatio):
            ratios.parse("2/4")

    def test_texts(self):
        for value, written in [((0, 1), "0"), ((7, 1), "7"), ((-7, 1), "-7"), ((10, 3), "10/3"),
                               ((-1, 1000), "-1/1000"), ((100, 1), "100"), ((1, 2), "1/2")]:
            self.assertEqual(ratios.text(value), written)
            self.assertEqual(ratios.parse(written), value)

    def test_there_and_back(self):
        draw = Draw(3)
        values = SMALL + [draw.long_ratio(figures) for figures in (10, 100, 500, 599) for _ in range(9)]
        for value in values:
            written = ratios.text(value)
            above, _, below = written.partition("/")
            self.assertEqual((int(above), int(below or "1")), value)
            self.assertEqual(ratios.parse(written), value)

    def test_just_600_figures(self):
        most = 10**600 - 1
        for value in [(most, 1), (-most, 1), (1, most), (-1, most), (most, most - 1), (10**599, 1),
                      (1, 10**599), (2**1992, 1), (1, 2**1992)]:
            written = ratios.text(value)
            self.assertEqual(ratios.parse(written), value)
        self.assertEqual(ratios.text((-most, 1)), "-" + "9" * 600)
        self.assertEqual(ratios.text((1, 10**599)), "1/1" + "0" * 599)

    def test_too_many_figures(self):
        for many in (10**600, 10**600 + 1, 2**1994, 10**601, 10**4299, 10**4300, 10**5000, 10**9999):
            for value in [(many, 1), (-many, 1), (1, many), (-1, many), (many + 1, many)]:
                with self.assertRaises(BadRatio):
                    ratios.text(value)

    def test_no_ratio_has_a_text(self):
        for value in STRANGE + [(2, 4), (1, 0), (True, 1), 5, (1,), ()]:
            with self.assertRaises(BadRatio):
                ratios.text(value)

    def test_other_strings(self):
        wrong = ["", " ", "-", "/", "+1", "1 ", " 1", "1/ 2", "1 /2", "- 1", "--1", "01", "00", "-0",
                 "-01", "0/1", "0/2", "2/4", "3/1", "1/1", "1/0", "0/0", "-0/5", "1/-2", "-1/-2", "1/+2",
                 "1/02", "01/2", "1/2/3", "1//2", "/2", "1/", "-/2", "1.5", "1e3", "1_000", "0x1", "one",
                 "1\n", "1/2\n", "\n1", "1\t", "6/3", "-2/4", "1/1 ", "1-", "1/2-", "\u0661", "\u00b2", "1/\u0662",
                 "\uff11", "1\u00a0", "\u22121", "\x00", "1\x00", "True", "None", "inf", "nan", "1,2", ":",
                 "\ud800", "0-", "-00", "+0", "0/-1"]
        for word in wrong:
            with self.assertRaises(BadRatio, msg=repr(word)):
                ratios.parse(word)

    def test_long_words(self):
        for size in (601, 700, 4299, 4300, 4301, 100000):
            digits = "1" * size
            for word in (digits, "-" + digits, "1/" + digits, digits + "/2", "0" * size, "-" * size,
                         "/" * size, "a" * size):
                with self.assertRaises(BadRatio):
                    ratios.parse(word)
        self.assertEqual(ratios.parse("-" + "1" * 600 + "/" + "2" * 599 + "3"),
                         (-int("1" * 600), int("2" * 599 + "3")))

    def test_no_string(self):
        for value in STRANGE + [0, 1, (1, 2), (0, 1)]:
            if not isinstance(value, str):
                with self.assertRaises(BadRatio):
                    ratios.parse(value)

    def test_every_short_word(self):
        texts = {str(above): (above, 1) for above in range(-999, 10000)}
        for above in range(-99, 1000):
            for below in range(2, 1000):
                if math.gcd(above, below) == 1:
                    texts[f"{above}/{below}"] = (above, below)
        for size in range(5):
            for signs in itertools.product("0129/-+ ", repeat=size):
                word = "".join(signs)
                if word in texts:
                    self.assertEqual(ratios.parse(word), texts[word])
                else:
                    with self.assertRaises(BadRatio, msg=repr(word)):
                        ratios.parse(word)


if __name__ == "__main__":
    unittest.main()
