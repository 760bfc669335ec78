"""Goals that every run of a loop reaches (points 909 and 910)."""

from kinkmeasure.errors import BadMeasure
from kinkmeasure.joining import beside, select
from kinkmeasure.judge import judge
from kinkmeasure.keeping import landing, landing_shown
from kinkmeasure.loops import check_regions, check_room, drifting, rolled, run_in
from kinkmeasure.ratios import divide, floor, is_ratio, negative, subtract
from kinkmeasure.regions import is_region, rows_of
from kinkmeasure.search import decide
from kinkmeasure.simplex import greatest
from kinkmeasure.vectors import dot, is_vector, opposite, zero


def is_measure(size, vector, fall):
    """Tell whether values are a vector for states and a fall greater than 0."""
    return is_vector(vector, size=size) and is_ratio(fall) and fall[0] > 0


def check_measured(loop, regions, vector, fall):
    """Raise what is due for a loop, regions and a measure."""
    check_regions(loop, regions)
    if not is_measure(loop[0][0], vector, fall):
        raise BadMeasure()


def step_and_state(loop):
    """Return the network that takes a state and a drift and gives the next state and then the state."""
    size = loop[0][0]
    return beside(rolled(loop, 1), select(2 * size, tuple(range(size))))


def falling_claim(held, goal, vector, fall):
    """Return the claim that the next state is held and measures less, or else the state is in the goal."""
    nothing = zero(len(vector))
    wanted = [(line + nothing, limit) for line, limit in rows_of(held)]
    wanted.append((vector + opposite(vector), negative(fall)))
    there = [(nothing + line, limit) for line, limit in rows_of(goal)]
    return tuple([(bound, other) for bound in wanted for other in there])


def reaches(loop, start, goal, held, vector, fall):
    """Return what shows that every run from the start reaches the goal, or why there is none."""
    check_measured(loop, (start, goal, held), vector, fall)
    word, begun = landing(loop, start, 0, held)
    if word == "misses":
        return ("outside", begun)
    check_room(loop, 1)
    claim = falling_claim(held, goal, vector, fall)
    word, found = decide(step_and_state(loop), drifting(loop, held, 1), claim)
    if word == "breaks":
        return ("stuck", run_in(loop, found))
    return ("reaches", (held, vector, fall, begun, found))


def judge_reaches(loop, start, goal, shown):
    """Tell whether a value shows that every run from the start reaches the goal."""
    check_regions(loop, (start, goal))
    if not isinstance(shown, tuple) or len(shown) != 5:
        return False
    held, vector, fall, begun, falling = shown
    if not is_region(loop[0][0], held) or not is_measure(loop[0][0], vector, fall):
        return False
    if not landing_shown(loop, start, 0, held, begun):
        return False
    check_room(loop, 1)
    claim = falling_claim(held, goal, vector, fall)
    return judge(step_and_state(loop), drifting(loop, held, 1), claim, falling)


def most_in(region, vector):
    """Return the greatest value of a form of the points of a region, or None if it has no point."""
    found = greatest(len(vector), rows_of(region), vector)
    return dot(vector, found[1]) if found[0] == "greatest" else None


def most_steps(loop, start, held, vector, fall):
    """Return the number of steps after which a run from the start surely reached the goal."""
    check_measured(loop, (start, held), vector, fall)
    most = most_in(start, vector)
    contrary = most_in(held, opposite(vector))
    if most is None or contrary is None:
        return 0
    return max(0, floor(divide(subtract(most, negative(contrary)), fall)))
