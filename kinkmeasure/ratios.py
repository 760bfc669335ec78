"""Exact fractions as tuples `(above, below)` in lowest terms (points 101 to 104)."""

from math import gcd

from kinkmeasure.errors import BadRatio, ByZero
from kinkmeasure.limits import MOST_FIGURES

ZERO = (0, 1)
ONE = (1, 1)
HALF = (1, 2)


def is_integer(value):
    """Tell whether a value is an integer other than True and False."""
    return isinstance(value, int) and not isinstance(value, bool)


def is_ratio(value):
    """Tell whether a value is a ratio."""
    if not isinstance(value, tuple) or len(value) != 2:
        return False
    above, below = value
    if not is_integer(above) or not is_integer(below):
        return False
    return below >= 1 and gcd(above, below) == 1


def make(above, below=1):
    """Return the ratio of two integers; raise ByZero for a below of 0."""
    if below == 0:
        raise ByZero()
    shared = gcd(above, below)
    if below < 0:
        shared = -shared
    return (above // shared, below // shared)


def of(integer):
    """Return an integer as a ratio."""
    return (integer, 1)


def add(one, other):
    """Return the sum of two ratios."""
    return make(one[0] * other[1] + other[0] * one[1], one[1] * other[1])


def subtract(one, other):
    """Return the first ratio minus the other one."""
    return make(one[0] * other[1] - other[0] * one[1], one[1] * other[1])


def multiply(one, other):
    """Return the product of two ratios."""
    return make(one[0] * other[0], one[1] * other[1])


def divide(one, other):
    """Return the first ratio divided by the other one; raise ByZero if that is zero."""
    return make(one[0] * other[1], one[1] * other[0])


def negative(ratio):
    """Return the ratio with the other sign."""
    return (-ratio[0], ratio[1])


def absolute(ratio):
    """Return the ratio without its sign."""
    return (abs(ratio[0]), ratio[1])


def compare(one, other):
    """Return -1, 0 or 1 if the first ratio is less than, equal to or greater than the other one."""
    left = one[0] * other[1]
    right = other[0] * one[1]
    if left < right:
        return -1
    if left > right:
        return 1
    return 0


def less(one, other):
    """Tell whether the first ratio is less than the other one."""
    return one[0] * other[1] < other[0] * one[1]


def at_most(one, other):
    """Tell whether the first ratio is at most the other one."""
    return one[0] * other[1] <= other[0] * one[1]


def least(ratios):
    """Return the least of ratios, of which there is at least one."""
    found = ratios[0]
    for ratio in ratios:
        if less(ratio, found):
            found = ratio
    return found


def greatest(ratios):
    """Return the greatest of ratios, of which there is at least one."""
    found = ratios[0]
    for ratio in ratios:
        if less(found, ratio):
            found = ratio
    return found


def total(ratios):
    """Return the sum of ratios, zero if there are none."""
    above = 0
    below = 1
    for (part, piece) in ratios:
        # A common below that only grows where it must spares a reduction for each item.
        shared = gcd(below, piece)
        above = above * (piece // shared) + part * (below // shared)
        below = below // shared * piece
    return make(above, below)


def floor(ratio):
    """Return the greatest integer that is not greater than the ratio."""
    return ratio[0] // ratio[1]


def ceiling(ratio):
    """Return the least integer that is not less than the ratio."""
    return -(-ratio[0] // ratio[1])


def nearest(ratio):
    """Return the nearest integer, the greater one if two are equally near."""
    return (2 * ratio[0] + ratio[1]) // (2 * ratio[1])


def is_writable(size):
    """Tell whether an integer from 0 on has few enough digits to be written."""
    # Fewer bits than three for each digit are surely enough; the exact limit is dear to make.
    # The digits are not counted, since Python itself refuses to write very long numbers.
    if size.bit_length() <= 3 * MOST_FIGURES:
        return True
    limit = 1
    for _ in range(MOST_FIGURES):
        limit = limit * 10
    return size < limit


def text(ratio):
    """Return the text of a ratio; raise BadRatio if it has none (point 104)."""
    if not is_ratio(ratio):
        raise BadRatio()
    above, below = ratio
    if not is_writable(abs(above)) or not is_writable(below):
        raise BadRatio()
    if below == 1:
        return str(above)
    return f"{above}/{below}"


def figures_in(word, most):
    """Return the integer that a word of at most so many digits writes, or None if it does not."""
    if len(word) > most or not word.isascii() or not word.isdigit():
        return None
    if word.startswith("0") and word != "0":
        return None
    return int(word)


def ratio_in(word):
    """Return the ratio whose text the value is, or None if there is none."""
    if not isinstance(word, str):
        return None
    before, slash, behind = word.partition("/")
    above = figures_in(before.removeprefix("-"), MOST_FIGURES)
    if above is None or before == "-0":
        return None
    if before.startswith("-"):
        above = -above
    if slash == "":
        return (above, 1)
    below = figures_in(behind, MOST_FIGURES)
    if below is None or below < 2 or gcd(above, below) > 1:
        return None
    return (above, below)


def parse(word):
    """Return the ratio whose text a word is; raise BadRatio if there is none."""
    ratio = ratio_in(word)
    if ratio is None:
        raise BadRatio()
    return ratio
