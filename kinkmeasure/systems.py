"""Linear systems and what multipliers show for them (points 300 to 302)."""

from kinkmeasure.errors import BadPaper, BadSystem
from kinkmeasure.ratios import ZERO, at_most, is_integer, is_ratio, less
from kinkmeasure.vectors import combined, dot, is_vector, zero


def is_bound(value, *, size=None):
    """Tell whether a value is a bound, over so many variables if a size is given."""
    if not isinstance(value, tuple) or len(value) != 2:
        return False
    return is_vector(value[0], size=size) and is_ratio(value[1])


def check_system(size, rows):
    """Raise BadSystem if the rows are not a system over so many variables."""
    if not is_integer(size) or size < 0 or not isinstance(rows, tuple):
        raise BadSystem()
    if not all(is_bound(row, size=size) for row in rows):
        raise BadSystem()


def are_multipliers(value, *, count):
    """Tell whether a value is a tuple of so many ratios, each 0 or more."""
    if not is_vector(value, size=count):
        return False
    return all(ratio[0] >= 0 for ratio in value)


def summed(size, rows, multipliers):
    """Return the bound that is the sum of the bounds, each times its multiplier."""
    if rows == ():
        return (zero(size), ZERO)
    vector = combined(multipliers, [row[0] for row in rows])
    return (vector, dot(multipliers, [row[1] for row in rows]))


def check_none(size, rows, multipliers):
    """Raise BadPaper unless the multipliers show that no point keeps all bounds."""
    check_system(size, rows)
    if not are_multipliers(multipliers, count=len(rows)):
        raise BadPaper()
    vector, limit = summed(size, rows, multipliers)
    if vector != zero(size) or not less(limit, ZERO):
        raise BadPaper()


def check_limit(size, rows, bound, multipliers):
    """Raise BadPaper unless the multipliers show the bound."""
    check_system(size, rows)
    if not is_bound(bound, size=size):
        raise BadSystem()
    if not are_multipliers(multipliers, count=len(rows)):
        raise BadPaper()
    vector, limit = summed(size, rows, multipliers)
    if vector != bound[0] or not at_most(limit, bound[1]):
        raise BadPaper()
