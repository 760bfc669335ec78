"""How much of a region breaks a claim about a network (points 1101 and 1102).

A form is written here as one vector: its constant, and then the items for the inputs.
"""

from kinkmeasure.claims import check_claim
from kinkmeasure.flatten import flatten
from kinkmeasure.leaves import raised
from kinkmeasure.networks import out_size
from kinkmeasure.ratios import ZERO, total
from kinkmeasure.regions import check_region
from kinkmeasure.vectors import cleared, combined, multiplied, opposite, unit, zero
from kinkmeasure.volumes import box_cell, cell_volume, cut, halves


def whole_form(form):
    """Return a form in whole numbers, times a positive one, with its constant last."""
    return cleared(form[1:] + form[:1])[0]


def bent_parts(parts, index):
    """Return the parts, each a cell and its forms, with a form that is bent, each split where it is 0."""
    found = []
    for cell, forms in parts:
        above, below = halves(cell, whole_form(forms[index]))
        if above is not None:
            found.append((above, forms))
        if below is not None:
            found.append((below, forms[:index] + (zero(len(forms[index])),) + forms[index + 1 :]))
    return found


def behind_layer(parts, layer):
    """Return the parts behind a layer, on each of which the layer is linear."""
    if layer[0] == "bends":
        for index, flag in enumerate(layer[1]):
            if flag:
                parts = bent_parts(parts, index)
        return parts
    found = []
    for cell, forms in parts:
        sums = multiplied(layer[1], forms)
        found.append((cell, tuple([raised(form, offset) for form, offset in zip(sums, layer[2])])))
    return found


def pieces_of(network, cell):
    """Return the parts of a cell on which a plain network is linear, each with the forms of the outputs."""
    size = network[0]
    parts = [(cell, tuple([unit(1 + size, 1 + index) for index in range(size)]))]
    for layer in network[1]:
        parts = behind_layer(parts, layer)
    return parts


def room_form(bound, forms):
    """Return the form in whole numbers that is at least 0 where the outputs keep a bound."""
    return whole_form(raised(opposite(combined(bound[0], forms)), bound[1]))


def sorted_out(cell, rooms):
    """Return the parts of a cell that keep one of the bounds, and the part that keeps none, or None."""
    keeping = []
    rest = cell
    for room in rooms:
        if rest is not None:
            above, rest = halves(rest, room)
            if above is not None:
                keeping.append(above)
    return keeping, rest


def broken_parts(cell, forms, claim):
    """Return cells that make up the part of a cell at which a claim breaks."""
    found = []
    left = [cell]
    for clause in claim:
        rooms = [room_form(bound, forms) for bound in clause]
        keeping = []
        for part in left:
            # What breaks a clause is counted at once, so later clauses are asked for the rest alone.
            more, rest = sorted_out(part, rooms)
            keeping.extend(more)
            if rest is not None:
                found.append(rest)
        left = keeping
    return found


def measure(network, region, claim):
    """Return the volume of a region, and that of its points at which a claim about the outputs breaks."""
    plain = flatten(network)
    check_region(network[0], region)
    check_claim(out_size(plain), claim)
    cell = cut(box_cell(region[0], region[1]), region[2])
    if cell is None:
        return (ZERO, ZERO)
    broken = []
    for part, forms in pieces_of(plain, cell):
        broken.extend([cell_volume(piece) for piece in broken_parts(part, forms, claim)])
    return (cell_volume(cell), total(broken))
