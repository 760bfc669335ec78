"""Intervals in which the values of a plain network lie, for a region and phases (points 402 and 403)."""

from kinkmeasure.networks import check_plain
from kinkmeasure.ratios import ZERO, add, greatest
from kinkmeasure.vectors import dot


def farthest(layer, positive, other):
    """Return the sums of a layer with one vector for positive weights and the other one for negative ones."""
    found = []
    for row, offset in zip(layer[1], layer[2]):
        taken = [one if weight[0] > 0 else two for weight, one, two in zip(row, positive, other)]
        found.append(add(dot(row, taken), offset))
    return tuple(found)


def given_range(phase, low, high):
    """Return the range of what a unit gives, of the range of its value."""
    if phase is False:
        return (ZERO, ZERO)
    return (greatest((ZERO, low)), greatest((ZERO, high)))


def all_ranges(network, region, phases):
    """Return the ranges of the units' values and of what they give, and the lows and highs of the outputs."""
    lows, highs, _ = region
    values = []
    given = []
    for layer in network[1]:
        if layer[0] == "sums":
            lows, highs = farthest(layer, lows, highs), farthest(layer, highs, lows)
            continue
        pairs = list(zip(lows, highs))
        for index, flag in enumerate(layer[1]):
            if flag:
                low, high = pairs[index]
                pairs[index] = given_range(phases[len(values)], low, high)
                values.append((low, high))
                given.append(pairs[index])
        lows = tuple([pair[0] for pair in pairs])
        highs = tuple([pair[1] for pair in pairs])
    return tuple(values), tuple(given), lows, highs


def value_ranges(network, region, phases):
    """Return the range of the value of each unit."""
    check_plain(network)
    return all_ranges(network, region, phases)[0]


def unit_ranges(network, region, phases):
    """Return the range of what each unit gives."""
    check_plain(network)
    return all_ranges(network, region, phases)[1]


def output_ranges(network, region, phases):
    """Return the vector of the least and the vector of the greatest values of the outputs."""
    check_plain(network)
    return all_ranges(network, region, phases)[2:]
