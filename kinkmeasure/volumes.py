"""Volumes of bounded sets, and bounded sets as cells that can be split (point 1100).

A cell is a bounded set with a volume greater than 0: a tuple of the number of the bounds that were used
so far, and its corners. Each corner is a tuple of a point in whole numbers, with the common below behind
its items, and of an integer with a bit for each bound that is tight there.
"""

from math import factorial, gcd

from kinkmeasure.errors import BadSystem
from kinkmeasure.ratios import ONE, ZERO, at_most, make, multiply, negative, subtract, total
from kinkmeasure.simplex import topped
from kinkmeasure.systems import check_system
from kinkmeasure.vectors import cleared, dot, opposite, unit


def box_cell(lows, highs):
    """Return the cell between lows and highs, or None if it has no volume."""
    if any([at_most(high, low) for low, high in zip(lows, highs)]):
        return None
    corners = [((), 0)]
    for index, (low, high) in enumerate(zip(lows, highs)):
        corners = [(point + (item,), tight | bit)
                   for point, tight in corners
                   for item, bit in ((low, 1 << (2 * index)), (high, 1 << (2 * index + 1)))]
    whole = []
    for point, tight in corners:
        integers, below = cleared(point)
        whole.append((integers + (below,), tight))
    return (2 * len(lows), whole)


def whole_dot(one, other):
    """Return the sum of the products of integers."""
    return sum([item * more for item, more in zip(one, other)])


def crossing(one, other, lead, lag):
    """Return the point between two corners at which a form is 0 that is `lead` at one and `lag` below 0."""
    point = [lead * more - lag * item for item, more in zip(one, other)]
    shared = 0
    for item in point:
        shared = gcd(shared, item)
    return tuple([item // shared for item in point])


def are_joined(corners, one, other):
    """Tell whether an edge joins two corners: no third one has all bounds tight that both have."""
    common = corners[one][1] & corners[other][1]
    for place, (_, tight) in enumerate(corners):
        if (tight & common) == common and place != one and place != other:
            return False
    return True


def halves(cell, form):
    """Return the parts of a cell at which a form in whole numbers is at least 0, and at most 0.

    The form has its constant last. A part without a volume is None; where the form is 0 all over, the
    whole cell is the first part.
    """
    used, corners = cell
    values = [whole_dot(form, point) for point, _ in corners]
    if min(values) >= 0:
        return cell, None
    if max(values) <= 0:
        return None, cell
    bit = 1 << used
    above = [corner for corner, value in zip(corners, values) if value > 0]
    below = [corner for corner, value in zip(corners, values) if value < 0]
    middle = [(point, tight | bit) for (point, tight), value in zip(corners, values) if value == 0]
    leading = [place for place, value in enumerate(values) if value > 0]
    lagging = [place for place, value in enumerate(values) if value < 0]
    for one in leading:
        for other in lagging:
            if are_joined(corners, one, other):
                point = crossing(corners[one][0], corners[other][0], values[one], values[other])
                middle.append((point, (corners[one][1] & corners[other][1]) | bit))
    return (used + 1, above + middle), (used + 1, below + middle)


def places_in(face):
    """Return the places of the bits of a face."""
    return [place for place in range(face.bit_length()) if (face >> place) & 1]


def facets(face, walls):
    """Return the greatest proper faces of a face, of the corners that lie on each wall."""
    parts = []
    for wall in walls:
        part = face & wall
        if part != face and part != 0 and part not in parts:
            parts.append(part)
    return [part for part in parts if not any([(part & other) == part and part != other for other in parts])]


def simplices(size, face, walls):
    """Return simplices that make up a face of this size; each is the list of the places of its corners."""
    waiting = [(size, face, [])]
    found = []
    while waiting != []:
        rest, part, ahead = waiting.pop()
        places = places_in(part)
        if len(places) == rest + 1:
            found.append(ahead + places)
            continue
        # The simplices on the faces that miss a corner make up the part, together with this corner.
        first = 1 << places[0]
        for facet in facets(part, walls):
            if (facet & first) == 0:
                waiting.append((rest - 1, facet, ahead + places[:1]))
    return found


def determinant(rows):
    """Return the determinant of a matrix of integers, up to its sign."""
    rows = [list(row) for row in rows]
    last = 1
    while rows != []:
        lead = None
        for place, row in enumerate(rows):
            if row[-1] != 0:
                lead = place
        if lead is None:
            return 0
        pivot = rows.pop(lead)
        # Each item is divided by the pivot ahead, which always leaves an integer.
        rows = [[(item * pivot[-1] - row[-1] * other) // last for item, other in zip(row[:-1], pivot)] for row in rows]
        last = pivot[-1]
    return abs(last)


def box_volume(low, high):
    """Return the product of the lengths of a box, of its least and its greatest corner."""
    found = ONE
    for above, more in zip(low[:-1], high[:-1]):
        found = multiply(found, subtract(make(more, high[-1]), make(above, low[-1])))
    return found


def cell_volume(cell):
    """Return the volume of a cell."""
    used, corners = cell
    size = len(corners[0][0]) - 1
    # A box that was not cut has more simplices than it needs to have.
    if used == 2 * size:
        return box_volume(corners[0][0], corners[-1][0])
    walls = []
    for index in range(used):
        walls.append(sum([1 << place for place, (_, tight) in enumerate(corners) if (tight >> index) & 1]))
    parts = []
    for places in simplices(size, (1 << len(corners)) - 1, walls):
        points = [corners[place][0] for place in places]
        below = factorial(size)
        for point in points:
            below = below * point[-1]
        parts.append(make(determinant(points), below))
    return total(parts)


def form_of(bound):
    """Return the form in whole numbers that is at least 0 where a bound is kept."""
    return cleared(opposite(bound[0]) + (bound[1],))[0]


def cut(cell, rows):
    """Return the part of a cell, or of None, that keeps bounds, or None if it has no volume."""
    for row in rows:
        if cell is not None:
            cell = halves(cell, form_of(row))[0]
    return cell


def most_of(size, rows, vector):
    """Return the greatest value of a form, or None if no point keeps all bounds; raise BadSystem if it is endless."""
    found = topped(size, rows, vector, ())
    if found[0] == "endless":
        raise BadSystem()
    return dot(vector, found[1]) if found[0] == "greatest" else None


def ends_of(size, rows):
    """Return the least and the greatest values of the items, or None if no point keeps all bounds."""
    lows = []
    highs = []
    for index in range(size):
        line = unit(size, index)
        high = most_of(size, rows, line)
        if high is None:
            return None
        highs.append(high)
        lows.append(negative(most_of(size, rows, opposite(line))))
    return lows, highs


def volume(size, rows):
    """Return the volume of the set of the points that keep all bounds; raise BadSystem if it is not bounded."""
    check_system(size, rows)
    if size < 1:
        raise BadSystem()
    ends = ends_of(size, rows)
    if ends is None:
        return ZERO
    cell = cut(box_cell(ends[0], ends[1]), rows)
    return ZERO if cell is None else cell_volume(cell)
