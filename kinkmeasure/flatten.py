"""The plain network that gives the same as a network (point 206)."""

from kinkmeasure.networks import check, given, in_turn
from kinkmeasure.ratios import ONE, ZERO, negative
from kinkmeasure.vectors import added, applied, identity, multiplied, unit, zero


def keeping(size):
    """Return the sums layer that gives what it takes."""
    return ("sums", identity(size), zero(size))


def merged(ahead, later):
    """Return the one sums layer that does what two of them do one behind the other."""
    offsets = added(applied(later[1], ahead[2]), later[2])
    return ("sums", multiplied(later[1], ahead[1]), offsets)


def picked(size, indexes):
    """Return the sums layer that gives the numbers at the indexes."""
    return ("sums", tuple([unit(size, index) for index in indexes]), zero(len(indexes)))


def window_sums(layer, taken):
    """Return the sums layer that does what a window layer does."""
    _, step, weights, offset = layer
    rows = []
    for place in range(given(layer, taken)):
        ahead = place * step
        rows.append(zero(ahead) + weights + zero(taken - ahead - len(weights)))
    return ("sums", tuple(rows), (offset,) * len(rows))


def row_of(size, items):
    """Return the vector with the items at their indexes and zero elsewhere."""
    row = [ZERO] * size
    for index, item in items:
        row[index] = item
    return tuple(row)


def parted(counts):
    """Return the rows and flags that put a first and a second one apart, and the rows behind.

    The numbers stand group behind group, so many for each. Of two neighbours a and b of a group,
    a - b is bent and b is kept; their sum behind the bend is the greater one.
    """
    size = sum(counts)
    ahead = []
    flags = []
    later = []
    start = 0
    for count in counts:
        for index in range(start, start + count - 1, 2):
            later.append((len(ahead), len(ahead) + 1))
            ahead.append(row_of(size, ((index, ONE), (index + 1, negative(ONE)))))
            ahead.append(unit(size, index + 1))
            flags.extend([True, False])
        start += count
        if count % 2 == 1:
            later.append((len(ahead),))
            ahead.append(unit(size, start - 1))
            flags.append(False)
    behind = [row_of(len(ahead), [(index, ONE) for index in indexes]) for indexes in later]
    return tuple(ahead), tuple(flags), tuple(behind)


def greatest_layers(layer, taken):
    """Return layers of sums and bends that do what a greatest layer does."""
    indexes = []
    for group in layer[1]:
        indexes.extend(group)
    counts = [len(group) for group in layer[1]]
    found = [picked(taken, indexes)]
    while max(counts) > 1:
        ahead, flags, behind = parted(counts)
        found.append(("sums", ahead, zero(len(ahead))))
        found.append(("bends", flags))
        found.append(("sums", behind, zero(len(behind))))
        counts = [(count + 1) // 2 for count in counts]
    return found


def as_sums_and_bends(layer, taken):
    """Return layers of sums and bends that do what a layer does."""
    if layer[0] == "greatest":
        return greatest_layers(layer, taken)
    if layer[0] == "window":
        return [window_sums(layer, taken)]
    return [layer]


def put_in_turn(size, layers):
    """Return layers that do the same as layers of sums and bends, and are in turn."""
    found = []
    for layer in layers:
        follows_sums = found != [] and found[-1][0] == "sums"
        if layer[0] == "sums" and follows_sums:
            found[-1] = merged(found[-1], layer)
            continue
        if layer[0] == "bends" and not follows_sums:
            found.append(keeping(len(layer[1])))
        found.append(layer)
    if found == []:
        found.append(keeping(size))
    if found[-1][0] == "bends":
        found.append(keeping(len(found[-1][1])))
    return tuple(found)


def flatten(network):
    """Return the plain network that gives the same at every point."""
    check(network)
    size, layers = network
    if in_turn(layers):
        return network
    found = []
    taken = size
    for layer in layers:
        found.extend(as_sums_and_bends(layer, taken))
        taken = given(layer, taken)
    return (size, put_in_turn(size, found))
