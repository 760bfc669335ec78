"""Networks of layers: their form, their runs and their units (points 200 to 205)."""

from kinkmeasure.errors import BadNetwork, BadPoint
from kinkmeasure.limits import MOST_INPUTS
from kinkmeasure.ratios import ZERO, add, greatest, is_integer, is_ratio
from kinkmeasure.vectors import added, applied, dot, is_matrix, is_vector

# The greatest step of a window layer (point 201).
MOST_STEP = 1000


def is_group(value):
    """Tell whether a value is a group of indexes, whatever the layer takes."""
    if not isinstance(value, tuple) or value == ():
        return False
    last = -1
    for index in value:
        if not is_integer(index) or index <= last:
            return False
        last = index
    return True


def is_window(step, weights, offset):
    """Tell whether values are the parts of a window layer, whatever it takes."""
    if not is_integer(step) or step < 1 or step > MOST_STEP:
        return False
    return is_vector(weights) and weights != () and is_ratio(offset)


def is_layer(value):
    """Tell whether a value is a layer, whatever it takes."""
    if not isinstance(value, tuple) or value == ():
        return False
    kind = value[0]
    parts = value[1:]
    if kind == "sums" and len(parts) == 2:
        return is_matrix(parts[0]) and is_vector(parts[1])
    if kind == "bends" and len(parts) == 1:
        return isinstance(parts[0], tuple) and all(isinstance(flag, bool) for flag in parts[0])
    if kind == "greatest" and len(parts) == 1:
        groups = parts[0]
        return isinstance(groups, tuple) and groups != () and all(is_group(group) for group in groups)
    if kind == "window" and len(parts) == 3:
        return is_window(parts[0], parts[1], parts[2])
    return False


def fits(layer, taken):
    """Tell whether a layer can take so many numbers."""
    kind = layer[0]
    if kind == "sums":
        return len(layer[1][0]) == taken and len(layer[2]) == len(layer[1])
    if kind == "bends":
        return len(layer[1]) == taken
    if kind == "greatest":
        # A group is in ascending order, so its last index is its greatest.
        return all(group[-1] < taken for group in layer[1])
    return len(layer[2]) <= taken


def given(layer, taken):
    """Return how many numbers a layer gives that takes so many."""
    kind = layer[0]
    if kind == "sums" or kind == "greatest":
        return len(layer[1])
    if kind == "bends":
        return taken
    return (taken - len(layer[2])) // layer[1] + 1


def check(network):
    """Raise BadNetwork for the first fault of a value that is no network (point 205)."""
    if not isinstance(network, tuple) or len(network) != 2:
        raise BadNetwork(-1, "form")
    size, layers = network
    if not is_integer(size) or not isinstance(layers, tuple):
        raise BadNetwork(-1, "form")
    if size < 1 or size > MOST_INPUTS:
        raise BadNetwork(-1, "inputs")
    taken = size
    for place, layer in enumerate(layers):
        if not is_layer(layer):
            raise BadNetwork(place, "form")
        if not fits(layer, taken):
            raise BadNetwork(place, "size")
        taken = given(layer, taken)


def in_turn(layers):
    """Tell whether layers are sums and bends in turn, beginning and ending with sums."""
    if len(layers) % 2 == 0:
        return False
    kinds = ("sums", "bends")
    return all([layer[0] == kinds[place % 2] for place, layer in enumerate(layers)])


def check_plain(network):
    """Raise BadNetwork for a value that is no network, or no plain one."""
    check(network)
    if not in_turn(network[1]):
        raise BadNetwork(-1, "plain")


def is_plain(network):
    """Tell whether a network is plain (point 203)."""
    check(network)
    return in_turn(network[1])


def sizes(network):
    """Return the number of inputs and of how many numbers each layer gives."""
    check(network)
    found = [network[0]]
    for layer in network[1]:
        found.append(given(layer, found[-1]))
    return tuple(found)


def out_size(network):
    """Return the number of outputs of a network."""
    return sizes(network)[-1]


def bent(flag, ratio):
    """Return what a bends layer gives for a number with this flag."""
    if flag and ratio[0] < 0:
        return ZERO
    return ratio


def slid(step, weights, offset, vector):
    """Return what a window layer gives for a vector."""
    wide = len(weights)
    starts = range(0, len(vector) - wide + 1, step)
    return tuple([add(dot(weights, vector[start : start + wide]), offset) for start in starts])


def passed(layer, vector):
    """Return what a layer gives for a vector that fits."""
    kind = layer[0]
    if kind == "sums":
        return added(applied(layer[1], vector), layer[2])
    if kind == "bends":
        return tuple([bent(flag, ratio) for flag, ratio in zip(layer[1], vector)])
    if kind == "greatest":
        return tuple([greatest([vector[index] for index in group]) for group in layer[1]])
    return slid(layer[1], layer[2], layer[3], vector)


def followed(layers, vector):
    """Return a vector and what each layer gives behind it, in order."""
    found = [vector]
    for layer in layers:
        found.append(passed(layer, found[-1]))
    return tuple(found)


def trail(network, point):
    """Return the point and what each layer gives there, in order; raise BadPoint for no point."""
    check(network)
    if not is_vector(point, size=network[0]):
        raise BadPoint()
    return followed(network[1], point)


def run(network, point):
    """Return the outputs at a point; raise BadPoint for no point."""
    return trail(network, point)[-1]


def unit_places(network):
    """Return the places of the units in order (point 204)."""
    check(network)
    found = []
    for place, layer in enumerate(network[1]):
        if layer[0] == "bends":
            found.extend([(place, index) for index, flag in enumerate(layer[1]) if flag])
    return tuple(found)


def units(network):
    """Return the number of the units of a network."""
    return len(unit_places(network))
