"""Texts of networks (points 208 to 212)."""

from kinkmeasure.errors import BadText
from kinkmeasure.networks import check
from kinkmeasure.ratios import figures_in, ratio_in, text

# The greatest number of digits of an integer that is no part of a ratio (point 208).
MOST_DIGITS = 9


def weights_text(weights, offset):
    """Return the words for weights and an offset."""
    words = [text(weight) for weight in weights]
    return " ".join(words) + " : " + text(offset)


def group_text(group):
    """Return the word for a group of indexes."""
    return ",".join([str(index) for index in group])


def layer_rows(layer):
    """Return the rows for a layer."""
    kind = layer[0]
    if kind == "sums":
        rows = ["row " + weights_text(row, offset) for row, offset in zip(layer[1], layer[2])]
        return [f"sums {len(rows)}"] + rows
    if kind == "bends":
        words = ["bend" if flag else "keep" for flag in layer[1]]
        return ["bends " + " ".join(words)]
    if kind == "greatest":
        words = [group_text(group) for group in layer[1]]
        return ["greatest " + " ".join(words)]
    return [f"window {layer[1]} " + weights_text(layer[2], layer[3])]


def text_of(network):
    """Return the text of a network; raise BadRatio if it has none."""
    check(network)
    rows = [f"network {network[0]}"]
    for layer in network[1]:
        rows.extend(layer_rows(layer))
    return "\n".join(rows) + "\n"


def integer_in(word):
    """Return the integer from 0 on that a word writes, or None if it does not."""
    return figures_in(word, MOST_DIGITS)


def weights_in(words):
    """Return the weights and the offset that words write, or None if they do not."""
    if len(words) < 3 or words[-2] != ":":
        return None
    ratios = [ratio_in(word) for word in words[:-2]]
    offset = ratio_in(words[-1])
    if offset is None or None in ratios:
        return None
    return tuple(ratios), offset


def flags_in(words):
    """Return the flags that words write, or None if they do not."""
    if words == [] or not all(word in ("bend", "keep") for word in words):
        return None
    return tuple([word == "bend" for word in words])


def groups_in(words):
    """Return the groups that words write, or None if they do not."""
    if words == []:
        return None
    groups = [tuple([integer_in(index) for index in word.split(",")]) for word in words]
    if any(None in group for group in groups):
        return None
    return tuple(groups)


def window_in(words):
    """Return the window layer that the words behind `window` write, or None if they do not."""
    if words == []:
        return None
    step = integer_in(words[0])
    parts = weights_in(words[1:])
    if step is None or parts is None:
        return None
    weights, offset = parts
    return ("window", step, weights, offset)


def layer_in(words):
    """Return the layer that the words of its only row write, or None if they do not."""
    kind = words[0]
    if kind == "window":
        return window_in(words[1:])
    if kind == "bends":
        part = flags_in(words[1:])
    elif kind == "greatest":
        part = groups_in(words[1:])
    else:
        return None
    if part is None:
        return None
    return (kind, part)


def count_in(words, kind):
    """Return the integer of a row of this kind that has nothing else, or None."""
    if len(words) != 2 or words[0] != kind:
        return None
    return integer_in(words[1])


def sums_at(rows, place):
    """Return the sums layer whose first row is at the place."""
    many = count_in(rows[place].split(" "), "sums")
    if many is None or many < 1:
        raise BadText(place + 1)
    matrix = []
    offsets = []
    for index in range(place + 1, place + 1 + many):
        words = rows[index].split(" ") if index < len(rows) else []
        parts = weights_in(words[1:]) if words[:1] == ["row"] else None
        if parts is None:
            raise BadText(index + 1)
        matrix.append(parts[0])
        offsets.append(parts[1])
    return ("sums", tuple(matrix), tuple(offsets))


def layers_in(rows):
    """Return the layers that the rows behind the first one write."""
    layers = []
    place = 1
    while place < len(rows):
        words = rows[place].split(" ")
        if words[0] == "sums":
            layer = sums_at(rows, place)
            place += len(layer[1])
        else:
            layer = layer_in(words)
        if layer is None:
            raise BadText(place + 1)
        layers.append(layer)
        place += 1
    return tuple(layers)


def parse(written):
    """Return the network of a text; raise BadText for the first wrong row, then BadNetwork."""
    if not isinstance(written, str):
        raise BadText(1)
    *rows, last = written.split("\n")
    size = count_in(rows[0].split(" "), "network") if rows != [] else None
    if size is None:
        raise BadText(1)
    layers = layers_in(rows)
    # What stands behind the last newline is an unfinished row.
    if last != "":
        raise BadText(len(rows) + 1)
    network = (size, layers)
    check(network)
    return network
