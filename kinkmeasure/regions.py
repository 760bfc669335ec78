"""Regions of inputs: boxes with further bounds (point 400)."""

from kinkmeasure.errors import BadRegion
from kinkmeasure.ratios import at_most, negative
from kinkmeasure.simplex import solve
from kinkmeasure.systems import is_bound
from kinkmeasure.vectors import dot, is_below, is_vector, opposite, unit


def is_region(size, value):
    """Tell whether a value is a region over so many inputs."""
    if not isinstance(value, tuple) or len(value) != 3:
        return False
    lows, highs, bounds = value
    if not is_vector(lows, size=size) or not is_vector(highs, size=size):
        return False
    return isinstance(bounds, tuple) and all(is_bound(bound, size=size) for bound in bounds)


def check_region(size, region):
    """Raise BadRegion for a value that is no region over so many inputs."""
    if not is_region(size, region):
        raise BadRegion()


def rows_of(region):
    """Return the bounds of a region: for each input its high and its low, and then the further ones."""
    lows, highs, bounds = region
    rows = []
    for index in range(len(lows)):
        line = unit(len(lows), index)
        rows.append((line, highs[index]))
        rows.append((opposite(line), negative(lows[index])))
    return tuple(rows) + bounds


def keeps(bound, vector):
    """Tell whether a vector keeps a bound."""
    return at_most(dot(bound[0], vector), bound[1])


def contains(region, point):
    """Tell whether a point lies in a region."""
    lows, highs, bounds = region
    if not is_below(lows, point) or not is_below(point, highs):
        return False
    return all(keeps(bound, point) for bound in bounds)


def point_of(region):
    """Return a point of a region, or multipliers that show that it has none."""
    return solve(len(region[0]), rows_of(region))
