"""Smaller networks that do the same on a region (points 603 to 609)."""

from kinkmeasure.errors import BadNetwork, BadStep
from kinkmeasure.flatten import merged
from kinkmeasure.judge import is_form, judge_case
from kinkmeasure.networks import check_plain, followed, unit_places
from kinkmeasure.pieces import unit_values
from kinkmeasure.ratios import ZERO, is_integer, subtract
from kinkmeasure.regions import check_region
from kinkmeasure.search import decide
from kinkmeasure.vectors import added, subtracted, zero

# The clauses of the papers of steps: the output of a value network is at most 0, or at least 0.
AT_MOST = ((((1, 1),), (0, 1)),)
AT_LEAST = ((((-1, 1),), (0, 1)),)


def has_unit(places, k):
    """Tell whether a value is the number of one of the units with these places."""
    return is_integer(k) and 0 <= k < len(places)


def check_units(places, numbers):
    """Raise BadNetwork unless all numbers are those of units."""
    if not all(has_unit(places, k) for k in numbers):
        raise BadNetwork(-1, "unit")


def network_ahead(network, layer, row, offset):
    """Return the network of the layers ahead of a layer of bends, the last one with this row alone."""
    return (network[0], network[1][: layer - 1] + (("sums", (row,), (offset,)),))


def value_network(network, k):
    """Return the plain network whose output is the value of unit k."""
    check_plain(network)
    places = unit_places(network)
    check_units(places, (k,))
    layer, index = places[k]
    _, matrix, offsets = network[1][layer - 1]
    return network_ahead(network, layer, matrix[index], offsets[index])


def value_difference(network, k, j):
    """Return the plain network whose output is the value of unit k minus that of unit j."""
    check_plain(network)
    places = unit_places(network)
    check_units(places, (k, j))
    layer, index = places[k]
    other, place = places[j]
    if layer != other:
        raise BadNetwork(-1, "unit")
    _, matrix, offsets = network[1][layer - 1]
    row = subtracted(matrix[index], matrix[place])
    return network_ahead(network, layer, row, subtract(offsets[index], offsets[place]))


def without(items, index):
    """Return a tuple without the item at an index."""
    return items[:index] + items[index + 1 :]


def put(items, index, item):
    """Return a tuple with another item at an index."""
    return items[:index] + (item,) + items[index + 1 :]


def around(network, layer, found):
    """Return the network with three other layers in place of those from one ahead of the layer on."""
    return (network[0], network[1][: layer - 1] + found + network[1][layer + 2 :])


def removed(network, layer, index):
    """Return the network without a coordinate of a layer of bends."""
    (_, ahead, offsets), (_, flags), (_, later, last) = network[1][layer - 1 : layer + 2]
    if len(flags) == 1:
        # A layer has at least one row, so the last coordinate is put to 0 instead.
        found = (("sums", (zero(len(ahead[0])),), (ZERO,)), ("bends", (False,)), ("sums", later, last))
        return around(network, layer, found)
    later = tuple([without(row, index) for row in later])
    found = (("sums", without(ahead, index), without(offsets, index)), ("bends", without(flags, index)))
    return around(network, layer, found + (("sums", later, last),))


def column_moved(network, layer, index, place):
    """Return the network in which what a coordinate is multiplied by is added to that of another one."""
    _, matrix, offsets = network[1][layer + 1]
    rows = [put(row, place, added((row[place],), (row[index],))[0]) for row in matrix]
    return (network[0], put(network[1], layer + 1, ("sums", tuple(rows), offsets)))


def straightened(network, layer, index):
    """Return the network in which a coordinate is not bent."""
    flags = put(network[1][layer][1], index, False)
    return (network[0], put(network[1], layer, ("bends", flags)))


def joined(network, layer):
    """Return the network without a layer of bends, with the sums around it as one layer."""
    ahead, _, later = network[1][layer - 1 : layer + 2]
    return around(network, layer, (merged(ahead, later),))


def is_join(network, step):
    """Tell whether a value is the step that removes a layer of bends without units."""
    if not is_form(step, "join", 1) or not is_integer(step[1]) or not 0 <= step[1] < len(network[1]):
        return False
    layer = network[1][step[1]]
    return layer[0] == "bends" and True not in layer[1]


def is_same(places, step):
    """Tell whether a value is a step that makes one of two units of a layer, whatever its papers are."""
    if not is_form(step, "same", 4) or not has_unit(places, step[1]) or not has_unit(places, step[2]):
        return False
    return step[2] < step[1] and places[step[1]][0] == places[step[2]][0]


def step_made(network, step):
    """Return the network behind a step, whatever its papers are; raise BadStep(0) for no step."""
    check_plain(network)
    places = unit_places(network)
    if is_join(network, step):
        return joined(network, step[1])
    if is_same(places, step):
        layer, index = places[step[1]]
        return removed(column_moved(network, layer, index, places[step[2]][1]), layer, index)
    if is_form(step, "nothing", 2) and has_unit(places, step[1]):
        layer, index = places[step[1]]
        return removed(network, layer, index)
    if is_form(step, "straight", 2) and has_unit(places, step[1]):
        layer, index = places[step[1]]
        return straightened(network, layer, index)
    raise BadStep(0)


def questions(network, step):
    """Return what the papers of a step are for: a network, a clause and the paper, for each."""
    if step[0] == "join":
        return []
    if step[0] == "same":
        between = value_difference(network, step[1], step[2])
        return [(between, AT_MOST, step[3]), (between, AT_LEAST, step[4])]
    clause = AT_MOST if step[0] == "nothing" else AT_LEAST
    return [(value_network(network, step[1]), clause, step[2])]


def judge_steps(network, region, steps):
    """Return the network behind steps; raise BadStep with the place of the first one that is wrong."""
    check_plain(network)
    check_region(network[0], region)
    if not isinstance(steps, tuple):
        raise BadStep(0)
    for place, step in enumerate(steps):
        try:
            behind = step_made(network, step)
        except BadStep:
            raise BadStep(place) from None
        for asked, clause, paper in questions(network, step):
            if not judge_case(asked, region, clause, paper):
                raise BadStep(place)
        network = behind
    return network


class Shortening:
    """A network on a region, with points of the region at which its units were seen."""

    def __init__(self, network, region):
        self.network = network
        self.region = region
        self.points = []
        self.seen = []

    def look(self, point):
        """Keep a point, and the values of the units there."""
        self.points.append(point)
        self.seen.append(self.values_at(point))

    def values_at(self, point):
        """Return the values of the units at a point."""
        return unit_values(self.network[1], followed(self.network[1], point))

    def go_to(self, network):
        """Take a smaller network in place of the one so far."""
        self.network = network
        self.seen = [self.values_at(point) for point in self.points]

    def papers(self, asked, clauses):
        """Return papers that all clauses hold for a value network, or None."""
        answer = decide(asked, self.region, clauses)
        if answer[0] == "holds":
            return answer[1]
        self.look(answer[1])
        return None

    def nothing(self, k):
        """Return the step that takes unit k away, or None."""
        # A unit that was seen above 0 need not be searched.
        if any(values[k][0] > 0 for values in self.seen):
            return None
        papers = self.papers(value_network(self.network, k), (AT_MOST,))
        return None if papers is None else ("nothing", k, papers[0])

    def straight(self, k):
        """Return the step that makes unit k straight, or None."""
        if any(values[k][0] < 0 for values in self.seen):
            return None
        papers = self.papers(value_network(self.network, k), (AT_LEAST,))
        return None if papers is None else ("straight", k, papers[0])

    def same(self, k, j):
        """Return the step that makes one of the units k and j, or None."""
        if any(values[k] != values[j] for values in self.seen):
            return None
        papers = self.papers(value_difference(self.network, k, j), (AT_MOST, AT_LEAST))
        return None if papers is None else ("same", k, j, papers[0], papers[1])

    def join_step(self):
        """Return the step that removes the first layer of bends without units, or None."""
        for index, layer in enumerate(self.network[1]):
            if layer[0] == "bends" and True not in layer[1]:
                return ("join", index)
        return None

    def step_for(self, k, places):
        """Return the first step that can be made for unit k, or None."""
        step = self.nothing(k)
        if step is None:
            step = self.straight(k)
        for j in range(k):
            if step is None and places[j][0] == places[k][0]:
                step = self.same(k, j)
        return step

    def step(self):
        """Return the first step that can be made, or None."""
        step = self.join_step()
        places = unit_places(self.network)
        for k in range(len(places)):
            if step is None:
                step = self.step_for(k, places)
        return step


def shorten(network, region):
    """Return the network behind all steps that can be made, and the steps."""
    check_plain(network)
    check_region(network[0], region)
    work = Shortening(network, region)
    steps = []
    step = work.step()
    while step is not None:
        steps.append(step)
        work.go_to(step_made(work.network, step))
        step = work.step()
    return work.network, tuple(steps)
