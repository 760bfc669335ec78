"""Networks that are put together of others (point 207)."""

from kinkmeasure.errors import BadJoin, BadNetwork
from kinkmeasure.flatten import flatten, keeping, merged, picked
from kinkmeasure.limits import MOST_INPUTS
from kinkmeasure.networks import check
from kinkmeasure.ratios import is_integer
from kinkmeasure.vectors import identity, is_matrix, opposite, zero


def affine(matrix, offsets):
    """Return the network of one sums layer with these parts."""
    if not is_matrix(matrix):
        raise BadNetwork(0, "form")
    network = (len(matrix[0]), (("sums", matrix, offsets),))
    check(network)
    return network


def are_indexes(value, size):
    """Tell whether a value is a non-empty tuple of integers from 0 to size - 1."""
    if not isinstance(value, tuple) or value == ():
        return False
    return all(is_integer(index) and 0 <= index < size for index in value)


def select(size, indexes):
    """Return the network that gives the inputs at the indexes."""
    check((size, ()))
    if not are_indexes(indexes, size):
        raise BadJoin()
    return (size, (picked(size, indexes),))


def outputs_of(network):
    """Return the number of outputs of a plain network."""
    return len(network[1][-1][2])


def flat_pair(one, other):
    """Return both networks as plain ones; the first one's fault comes first."""
    return flatten(one), flatten(other)


def behind(one, other):
    """Return the plain network in which the other one takes what the first one gives."""
    first, second = flat_pair(one, other)
    if outputs_of(first) != second[0]:
        raise BadJoin()
    between = merged(first[1][-1], second[1][0])
    return (first[0], first[1][:-1] + (between,) + second[1][1:])


def lengthened(network, depth):
    """Return the layers of a plain network, with as many more that keep the outputs as it lacks."""
    wide = outputs_of(network)
    keep = (("bends", (False,) * wide), keeping(wide))
    return network[1] + keep * ((depth - len(network[1])) // 2)


def stacked(one, other):
    """Return the sums layer that gives what two give that take the same."""
    return ("sums", one[1] + other[1], one[2] + other[2])


def abreast(one, other):
    """Return the layer that does what two do of which each takes numbers of its own."""
    if one[0] == "bends":
        return ("bends", one[1] + other[1])
    left = zero(len(one[1][0]))
    right = zero(len(other[1][0]))
    rows = [row + right for row in one[1]] + [left + row for row in other[1]]
    return ("sums", tuple(rows), one[2] + other[2])


def side_by_side(first, second, start):
    """Return the layers of two plain networks at once, behind a first layer that both share."""
    depth = max(len(first[1]), len(second[1]))
    pairs = list(zip(lengthened(first, depth), lengthened(second, depth)))
    return (start,) + tuple([abreast(one, other) for one, other in pairs[1:]])


def together(first, second):
    """Return the plain network that gives the outputs of two plain ones with as many inputs."""
    start = stacked(first[1][0], second[1][0])
    return (first[0], side_by_side(first, second, start))


def beside(one, other):
    """Return the plain network that gives the outputs of both for the same inputs."""
    first, second = flat_pair(one, other)
    if first[0] != second[0]:
        raise BadJoin()
    return together(first, second)


def along(one, other):
    """Return the plain network that gives the outputs of both, each for inputs of its own."""
    first, second = flat_pair(one, other)
    size = first[0] + second[0]
    if size > MOST_INPUTS:
        raise BadNetwork(-1, "inputs")
    start = abreast(first[1][0], second[1][0])
    return (size, side_by_side(first, second, start))


def subtracting(wide):
    """Return the sums layer that takes so many numbers twice and gives the first minus the second."""
    rows = [row + opposite(row) for row in identity(wide)]
    return ("sums", tuple(rows), zero(wide))


def difference(one, other):
    """Return the plain network that gives the outputs of the first one minus those of the other."""
    first, second = flat_pair(one, other)
    wide = outputs_of(first)
    if first[0] != second[0] or wide != outputs_of(second):
        raise BadJoin()
    size, layers = together(first, second)
    return (size, layers[:-1] + (merged(layers[-1], subtracting(wide)),))
