"""Leaves: what multipliers show about a clause on the points with given phases (points 404 to 407).

A form is written here as one vector: its constant, and then the items for the variables.
"""

from kinkmeasure.networks import check_plain, units
from kinkmeasure.ranges import all_ranges
from kinkmeasure.ratios import ONE, ZERO, add, at_most, divide, less, negative, subtract, total
from kinkmeasure.regions import rows_of
from kinkmeasure.systems import are_multipliers, summed
from kinkmeasure.vectors import combined, filled, mixed, multiplied, scaled, subtracted, unit, zero


def raised(form, constant):
    """Return a form with the constant added."""
    return (add(form[0], constant),) + form[1:]


def forms_of(network, count):
    """Return the forms of the values of the units, and those of the outputs."""
    wide = 1 + network[0] + count
    values = []
    forms = [unit(wide, 1 + index) for index in range(network[0])]
    for layer in network[1]:
        if layer[0] == "sums":
            sums = multiplied(layer[1], forms)
            forms = [raised(form, offset) for form, offset in zip(sums, layer[2])]
            continue
        for index, flag in enumerate(layer[1]):
            if flag:
                values.append(forms[index])
                forms[index] = unit(wide, network[0] + len(values))
    return tuple(values), tuple(forms)


def narrowed(values, size, fates):
    """Return the forms of the values over the inputs and the open units alone, and what to put in.

    A unit with the fate True gives its value, one with False gives 0; one with None stays a variable.
    The second thing is, as `mixed` takes it, what stands for the constant and each of the variables.
    """
    wide = 1 + size + fates.count(None)
    parts = [filled(unit(wide, index)) for index in range(1 + size)]
    ahead = 1 + size
    found = []
    for form, fate in zip(values, fates):
        value = mixed(form, parts, wide)
        found.append(value)
        if fate is None:
            parts.append(filled(unit(wide, ahead)))
            ahead += 1
        else:
            parts.append(filled(value) if fate else ([], 1))
    return found, parts


def bound_between(one, other):
    """Return the bound that says that one form is at most another one."""
    form = subtracted(one, other)
    return (form[1:], negative(form[0]))


def highest(value, low, high):
    """Return the form that a unit left open is at most, of its value and the range of this."""
    if low[0] >= 0:
        return value
    if high[0] <= 0:
        return zero(len(value))
    return scaled(divide(high, subtract(high, low)), raised(value, negative(low)))


def unit_pairs(phase, given, value, low, high):
    """Return the pairs of forms of which one is at most the other one, for the three bounds of a unit."""
    nothing = zero(len(value))
    if phase is None:
        return ((nothing, given), (value, given), (given, highest(value, low, high)))
    if phase:
        return ((given, value), (value, given), (nothing, value))
    return ((given, nothing), (nothing, given), (value, nothing))


def unit_bounds(phase, given, value, low, high):
    """Return the three bounds of a unit, of the forms of what it gives and of its value."""
    return [bound_between(one, other) for one, other in unit_pairs(phase, given, value, low, high)]


def bound_place(phase, low, high, positive):
    """Return which of the three bounds of a unit tells what its variable is at most, or else at least."""
    if phase is not None:
        return 0 if positive else 1
    if positive:
        return 2
    # Of the two that a unit left open is at least, its value is the better one if it is mostly positive.
    return 1 if low[0] >= 0 or less(negative(low), high) else 0


def widened_rows(region, more):
    """Return the bounds of a region with zeros for so many further variables."""
    return [(vector + zero(more), limit) for vector, limit in rows_of(region)]


def rows_with(values, region, phases, ranges):
    """Return the bounds of a leaf, of the forms and the ranges of the units' values."""
    size = len(region[0])
    rows = widened_rows(region, len(values))
    for index, value in enumerate(values):
        low, high = ranges[index]
        given = unit(len(value), 1 + size + index)
        rows.extend(unit_bounds(phases[index], given, value, low, high))
    return tuple(rows)


def leaf_rows(network, region, phases):
    """Return the bounds of a leaf (point 405)."""
    check_plain(network)
    values, _ = forms_of(network, len(phases))
    return rows_with(values, region, phases, all_ranges(network, region, phases)[0])


def goals_with(outputs, clause):
    """Return the goals of a clause, of the forms of the outputs."""
    goals = []
    for vector, limit in clause:
        form = combined(vector, outputs)
        goals.append((form[1:], subtract(limit, form[0])))
    return tuple(goals)


def goal_rows(network, count, clause):
    """Return the goals of a clause over the variables (point 406)."""
    check_plain(network)
    return goals_with(forms_of(network, count)[1], clause)


def are_right(size, rows, goals, multipliers, shares):
    """Tell whether multipliers and shares are right for bounds of a leaf and goals."""
    if not are_multipliers(multipliers, count=len(rows)) or not are_multipliers(shares, count=len(goals)):
        return False
    vector, limit = summed(size, rows, multipliers)
    goal, most = summed(size, goals, shares)
    if vector != goal:
        return False
    if total(shares) == ONE:
        return at_most(limit, most)
    return total(shares) == ZERO and less(limit, ZERO)


class Ground:
    """A plain network on a region, with the forms of its units and of its outputs.

    Several clauses often ask for the same phases one behind the other, so the last ones are kept.
    """

    def __init__(self, network, region):
        self.network = network
        self.region = region
        self.size = network[0]
        self.count = units(network)
        self.unit_forms, self.out_forms = forms_of(network, self.count)
        self.phases = None
        self.ranges = ()
        self.rows = None

    def take(self, phases):
        """Work out the ranges for phases, if they are not the last ones."""
        if phases != self.phases:
            # The last layer gives the outputs, and no unit is behind it.
            ahead = (self.size, self.network[1][:-1])
            self.phases = phases
            self.ranges = all_ranges(ahead, self.region, phases)[0]
            self.rows = None

    def ranges_for(self, phases):
        """Return the ranges of the units' values for phases."""
        self.take(phases)
        return self.ranges

    def leaf_rows(self, phases):
        """Return the bounds of a leaf."""
        self.take(phases)
        if self.rows is None:
            self.rows = rows_with(self.unit_forms, self.region, phases, self.ranges)
        return self.rows


def is_leaf_right(network, region, phases, clause, multipliers, shares):
    """Tell whether a leaf is right (point 407)."""
    rows = leaf_rows(network, region, phases)
    goals = goal_rows(network, len(phases), clause)
    return are_right(network[0] + len(phases), rows, goals, multipliers, shares)
