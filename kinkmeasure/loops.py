"""Networks in a loop: states, drifts and runs (points 900 to 904 and 913)."""

from kinkmeasure.errors import BadCount, BadLoop, BadNetwork, BadPoint
from kinkmeasure.flatten import keeping
from kinkmeasure.joining import affine, along, behind, beside
from kinkmeasure.limits import MOST_INPUTS
from kinkmeasure.networks import check, followed, out_size
from kinkmeasure.ratios import absolute, is_integer, multiply, total
from kinkmeasure.regions import check_region
from kinkmeasure.vectors import added, applied, identity, is_below, is_matrix, is_vector, subtracted, zero


def check_loop(loop):
    """Raise BadLoop or BadNetwork for the first fault of a value that is no loop (point 901)."""
    if not isinstance(loop, tuple) or len(loop) != 5:
        raise BadLoop("form")
    network, own, pull, lows, highs = loop
    check(network)
    size = network[0]
    if not is_matrix(own, rows=size, columns=size):
        raise BadLoop("own")
    if not is_matrix(pull, rows=size, columns=out_size(network)):
        raise BadLoop("pull")
    if not is_vector(lows, size=size) or not is_vector(highs, size=size) or not is_below(lows, highs):
        raise BadLoop("drift")


def check_regions(loop, regions):
    """Raise what is due for a loop, and BadRegion for the first value that is no region over its states."""
    check_loop(loop)
    for region in regions:
        check_region(loop[0][0], region)


def is_count(value, least):
    """Tell whether a value is an integer from the least one on."""
    return is_integer(value) and value >= least


def has_room(loop, count):
    """Tell whether a state and so many drifts are few enough inputs (point 903)."""
    return loop[0][0] * (count + 1) <= MOST_INPUTS


def check_room(loop, count):
    """Raise BadNetwork if a state and so many drifts are too many inputs."""
    if not has_room(loop, count):
        raise BadNetwork(-1, "inputs")


def check_counted(loop, regions, count, least):
    """Raise what is due for a loop, regions and a count of steps from the least one on."""
    check_regions(loop, regions)
    if not is_count(count, least):
        raise BadCount()
    check_room(loop, count)


def state_size(loop):
    """Return the number of items of a state."""
    check_loop(loop)
    return loop[0][0]


def is_between(loop, vector):
    """Tell whether a vector of the right size lies between the lows and the highs of a loop."""
    return is_below(loop[3], vector) and is_below(vector, loop[4])


def is_drift(loop, drift):
    """Tell whether a value is a drift of a loop."""
    check_loop(loop)
    return is_vector(drift, size=loop[0][0]) and is_between(loop, drift)


def led(loop, state):
    """Return where a loop leads a state without a drift."""
    network, own, pull, _, _ = loop
    return added(applied(own, state), applied(pull, followed(network[1], state)[-1]))


def check_state(loop, state):
    """Raise what is due for a loop, and BadPoint for a value that is no state."""
    check_loop(loop)
    if not is_vector(state, size=loop[0][0]):
        raise BadPoint()


def steered(loop, state):
    """Return where a loop leads a state without a drift; raise BadPoint for no state."""
    check_state(loop, state)
    return led(loop, state)


def states_of(loop, state, drifts):
    """Return the run from a state with a tuple of drifts; raise BadPoint for what is none."""
    check_state(loop, state)
    if not isinstance(drifts, tuple) or not all([is_vector(drift, size=len(state)) for drift in drifts]):
        raise BadPoint()
    if not all([is_between(loop, drift) for drift in drifts]):
        raise BadPoint()
    states = [state]
    for drift in drifts:
        states.append(added(led(loop, states[-1]), drift))
    return tuple(states)


def step(loop, state, drift):
    """Return the state behind a state with a drift; raise BadPoint for what is none."""
    return states_of(loop, state, (drift,))[-1]


def is_run(loop, states):
    """Tell whether a value is a run of a loop."""
    check_loop(loop)
    if not isinstance(states, tuple) or states == ():
        return False
    if not all([is_vector(state, size=loop[0][0]) for state in states]):
        return False
    pairs = list(zip(states[:-1], states[1:]))
    return all([is_between(loop, subtracted(later, led(loop, state))) for state, later in pairs])


def side_by_side(one, other):
    """Return the matrix whose rows are those of one and those of the other one behind them."""
    return tuple([row + more for row, more in zip(one, other)])


def steering(loop):
    """Return the plain network that takes a state and gives where the loop leads it without a drift."""
    network, own, pull, _, _ = loop
    size = network[0]
    still = affine(identity(size), zero(size))
    return behind(beside(still, network), affine(side_by_side(own, pull), zero(size)))


def one_step(loop):
    """Return the plain network that takes a state and a drift and gives the next state."""
    line = identity(loop[0][0])
    nothing = zero(len(line))
    return behind(along(steering(loop), affine(line, nothing)), affine(side_by_side(line, line), nothing))


def rolled(loop, count):
    """Return the unrolled network for a count that surely fits."""
    size = loop[0][0]
    found = (size, (keeping(size),))
    if count == 0:
        return found
    single = one_step(loop)
    found = single
    for _ in range(count - 1):
        found = behind(along(found, (size, (keeping(size),))), single)
    return found


def unrolled(loop, count):
    """Return the plain network that takes a state and so many drifts and gives the last state."""
    check_counted(loop, (), count, 0)
    return rolled(loop, count)


def step_network(loop):
    """Return the unrolled network for one step."""
    check_counted(loop, (), 1, 0)
    return rolled(loop, 1)


def drifting(loop, region, count):
    """Return the region of a state and so many drifts, of what surely fits."""
    lows, highs, bounds = region
    more = zero(len(lows) * count)
    wide = tuple([(vector + more, limit) for vector, limit in bounds])
    return (lows + loop[3] * count, highs + loop[4] * count, wide)


def with_drifts(loop, region, count):
    """Return the region of the inputs of the unrolled network with the state in a region."""
    check_counted(loop, (region,), count, 0)
    return drifting(loop, region, count)


def run_in(loop, point):
    """Return the run that a state and drifts one behind the other make."""
    size = loop[0][0]
    parts = [point[place : place + size] for place in range(0, len(point), size)]
    return states_of(loop, parts[0], tuple(parts[1:]))


def parted(loop, point):
    """Return the run that a point of a region with drifts makes; raise BadPoint for no such point."""
    check_loop(loop)
    if not is_vector(point) or point == ():
        raise BadPoint()
    return run_in(loop, point)


def swapped(loop, network):
    """Return the loop with another network; raise what is due for it."""
    check_loop(loop)
    found = (network,) + loop[1:]
    check_loop(found)
    return found


def widened(loop, gap):
    """Return the loop whose drifts go farther by the gap times what `pull` makes of it."""
    check_loop(loop)
    network, own, pull, lows, highs = loop
    more = tuple([multiply(gap, total([absolute(weight) for weight in row])) for row in pull])
    return (network, own, pull, subtracted(lows, more), added(highs, more))
