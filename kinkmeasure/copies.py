"""Copies of plain networks whose weights are multiples of units (points 800 to 802 and 811)."""

from kinkmeasure.distance import distance
from kinkmeasure.errors import BadScale
from kinkmeasure.networks import check_plain
from kinkmeasure.ratios import is_integer, make

# The greatest grid and the greatest scale (point 800).
MOST_SCALE = 1000


def rounded(ratio, n):
    """Return the multiple of `1 / n` nearest to a ratio; from the middle it goes away from 0."""
    above, below = ratio
    whole = (2 * abs(above) * n + below) // (2 * below)
    return make(-whole if above < 0 else whole, n)


def is_scale(value):
    """Tell whether a value can be a grid or a scale."""
    return is_integer(value) and 1 <= value <= MOST_SCALE


def check_copied(network, grid, scale):
    """Raise what is due for a network that is copied for a grid and a scale."""
    check_plain(network)
    if not is_scale(grid) or not is_scale(scale):
        raise BadScale()


def unit_below(grid, scale, power):
    """Return the below of the unit of a layer of sums, counted from 1; that of the inputs is the grid."""
    below = grid
    for _ in range(power):
        below = below * scale
    return below


def copied_sums(layer, scale, below):
    """Return a layer of sums with its weights and offsets rounded."""
    matrix = [tuple([rounded(weight, scale) for weight in row]) for row in layer[1]]
    return ("sums", tuple(matrix), tuple([rounded(offset, below) for offset in layer[2]]))


def copy_of(network, grid, scale):
    """Return the copy of a plain network for a grid and a scale (point 802)."""
    check_copied(network, grid, scale)
    layers = []
    for place, layer in enumerate(network[1]):
        if layer[0] == "sums":
            layer = copied_sums(layer, scale, unit_below(grid, scale, place // 2 + 1))
        layers.append(layer)
    return (network[0], tuple(layers))


def copy_distance(network, grid, scale, region):
    """Return how far a network and its copy are apart on a region."""
    return distance(network, copy_of(network, grid, scale), region)
