"""Pieces of a region on which a plain network is linear (point 504)."""

from kinkmeasure.leaves import bound_between, forms_of, narrowed
from kinkmeasure.networks import check_plain, trail
from kinkmeasure.regions import rows_of
from kinkmeasure.vectors import column, mixed, zero


def unit_values(layers, passing):
    """Return the values of the units, of what goes through the layers at a point."""
    found = []
    for place, layer in enumerate(layers):
        if layer[0] == "bends":
            found.extend([value for flag, value in zip(layer[1], passing[place]) if flag])
    return tuple(found)


def pattern(network, point):
    """Return the phases with True for each unit whose value at the point is greater than 0."""
    check_plain(network)
    return tuple([value[0] > 0 for value in unit_values(network[1], trail(network, point))])


def piece_rows(network, region, phases):
    """Return the bounds over the inputs whose points are the piece."""
    check_plain(network)
    values, _ = narrowed(forms_of(network, len(phases))[0], network[0], phases)
    nothing = zero(1 + network[0])
    rows = []
    for phase, value in zip(phases, values):
        rows.append(bound_between(nothing, value) if phase else bound_between(value, nothing))
    return rows_of(region) + tuple(rows)


def piece_form(network, phases):
    """Return the matrix and the offsets of the outputs on the piece."""
    check_plain(network)
    values, outputs = forms_of(network, len(phases))
    _, parts = narrowed(values, network[0], phases)
    forms = [mixed(form, parts, 1 + network[0]) for form in outputs]
    return tuple([form[1:] for form in forms]), column(forms, 0)
