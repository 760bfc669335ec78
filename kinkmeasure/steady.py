"""How far from a point a claim holds (points 710 to 714)."""

from kinkmeasure.claims import check_claim, claim_holds, clause_holds
from kinkmeasure.errors import BadPoint
from kinkmeasure.flatten import flatten
from kinkmeasure.judge import is_form, judge
from kinkmeasure.networks import out_size, run, units
from kinkmeasure.pieces import pattern, piece_form, piece_rows
from kinkmeasure.ratios import HALF, ONE, ZERO, absolute, add, at_most, greatest, is_ratio, least, less
from kinkmeasure.ratios import negative, subtract
from kinkmeasure.regions import check_region, contains, keeps
from kinkmeasure.search import decide
from kinkmeasure.simplex import topped
from kinkmeasure.vectors import added, combined, dot, is_vector, opposite, scaled, subtracted, unit, zero


def reach(centre, point):
    """Return the greatest absolute value of a difference of the coordinates."""
    return greatest([absolute(item) for item in subtracted(point, centre)])


def within_radius(region, centre, radius):
    """Return the part of a region within a radius of the centre."""
    lows, highs, bounds = region
    narrow_lows = tuple([greatest((low, subtract(item, radius))) for low, item in zip(lows, centre)])
    narrow_highs = tuple([least((high, add(item, radius))) for high, item in zip(highs, centre)])
    return (narrow_lows, narrow_highs, bounds)


def checked_plain(network, region, centre, claim):
    """Return the flattened network; raise what is due for all that is handed in."""
    plain = flatten(network)
    check_region(network[0], region)
    if not is_vector(centre, size=network[0]) or not contains(region, centre):
        raise BadPoint()
    check_claim(out_size(plain), claim)
    return plain


def missed_rows(network, phases, clause):
    """Return the bounds over the inputs that say, on a piece, that no bound of a clause is kept with room."""
    matrix, offsets = piece_form(network, phases)
    rows = []
    for vector, limit in clause:
        rows.append((opposite(combined(vector, matrix)), subtract(dot(vector, offsets), limit)))
    return rows


def reach_rows(centre):
    """Return the bounds over a point and one number more that say that this is at least the reach."""
    size = len(centre)
    rows = []
    for index in range(size):
        line = unit(size, index)
        rows.append((line + (negative(ONE),), centre[index]))
        rows.append((opposite(line) + (negative(ONE),), negative(centre[index])))
    return rows


def nearest_on_piece(network, region, centre, phases, clause):
    """Return the point of a piece nearest to the centre at which no bound of a clause is kept with room."""
    size = network[0]
    rows = list(piece_rows(network, region, phases)) + missed_rows(network, phases, clause)
    wide = [(vector + (ZERO,), limit) for vector, limit in rows]
    found = topped(size + 1, wide + reach_rows(centre), zero(size) + (negative(ONE),), ())
    return found[1][:size]


def pulled(network, centre, far, claim):
    """Return a point that breaks the claim as `far` does, but is nearer to the centre, at which it holds."""
    step = scaled(HALF, subtracted(centre, far))
    point = added(far, step)
    # All points near `far` break the claim, too, so this ends.
    while claim_holds(claim, run(network, point)):
        step = scaled(HALF, step)
        point = added(far, step)
    return point


def steady(network, region, centre, claim):
    """Return how far from the centre the claim holds (points 711 and 712)."""
    plain = checked_plain(network, region, centre, claim)
    if not claim_holds(claim, run(plain, centre)):
        return ("never",)
    answer = decide(plain, region, claim)
    if answer[0] == "holds":
        return ("always", answer[1])
    while answer[0] == "breaks":
        # The pulled point is nearer than the last radius, so no piece is looked at twice for a clause.
        far = pulled(plain, centre, answer[1], claim)
        phases = pattern(plain, far)
        outputs = run(plain, far)
        broken = [clause for clause in claim if not clause_holds(clause, outputs)][0]
        near = nearest_on_piece(plain, region, centre, phases, broken)
        radius = reach(centre, near)
        answer = decide(plain, within_radius(region, centre, radius), claim)
    return ("radius", radius, answer[1], near, far, phases)


def are_phases(value, count):
    """Tell whether a value is a tuple of True or False for each of so many units."""
    return isinstance(value, tuple) and len(value) == count and all(isinstance(phase, bool) for phase in value)


def is_missed(clause, near, far):
    """Tell whether outputs reach all limits of a clause, and other outputs exceed them."""
    for vector, limit in clause:
        if less(dot(vector, near), limit) or at_most(dot(vector, far), limit):
            return False
    return True


def are_around(network, region, centre, claim, radius, points, phases):
    """Tell whether two points and phases show that the claim holds no farther than the radius."""
    if not is_ratio(radius) or not are_phases(phases, units(network)):
        return False
    rows = piece_rows(network, region, phases)
    for point in points:
        if not is_vector(point, size=network[0]) or not all(keeps(row, point) for row in rows):
            return False
    near, far = points
    if reach(centre, near) != radius:
        return False
    first, last = run(network, near), run(network, far)
    return any(is_missed(clause, first, last) for clause in claim)


def judge_steady(network, region, centre, claim, answer):
    """Tell whether a value is what `steady` may return (point 714)."""
    plain = checked_plain(network, region, centre, claim)
    if is_form(answer, "never", 0):
        return not claim_holds(claim, run(plain, centre))
    if is_form(answer, "always", 1):
        return judge(plain, region, claim, answer[1])
    if not is_form(answer, "radius", 5):
        return False
    _, radius, papers, near, far, phases = answer
    if not are_around(plain, region, centre, claim, radius, (near, far), phases):
        return False
    return judge(plain, within_radius(region, centre, radius), claim, papers)
