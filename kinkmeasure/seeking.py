"""The search for a held region that warrants that a loop is safe for ever (points 911 and 912)."""

from kinkmeasure.greatest import greatest, least
from kinkmeasure.keeping import staying, warranted
from kinkmeasure.loops import check_counted, check_regions, check_room, steering
from kinkmeasure.ratios import add, at_most, negative
from kinkmeasure.reaching import most_in
from kinkmeasure.regions import point_of
from kinkmeasure.vectors import is_below, opposite, unit


def box_around(region):
    """Return the least box that contains a region, or None if it has no point."""
    if region[2] == ():
        return region if is_below(region[0], region[1]) else None
    size = len(region[0])
    lows = []
    highs = []
    for index in range(size):
        line = unit(size, index)
        high = most_in(region, line)
        if high is None:
            return None
        highs.append(high)
        lows.append(negative(most_in(region, opposite(line))))
    return (tuple(lows), tuple(highs), ())


def least_box(loop, region):
    """Return the least box that contains a region over the states, or None if it has no point."""
    check_regions(loop, (region,))
    return box_around(region)


def box_behind(loop, region):
    """Return the least box of the states that may follow one of a region, which has a point."""
    network = steering(loop)
    size = network[0]
    lows = []
    highs = []
    for index in range(size):
        line = unit(size, index)
        # The drifts are free of the state, so the farthest one is added to what the state alone gives.
        lows.append(add(least(network, region, line)[1], loop[3][index]))
        highs.append(add(greatest(network, region, line)[1], loop[4][index]))
    return (tuple(lows), tuple(highs), ())


def next_box(loop, region):
    """Return the least box of the states that may follow one of a region, or None if it has no point."""
    check_regions(loop, (region,))
    if point_of(region)[0] == "none":
        return None
    check_room(loop, 1)
    return box_behind(loop, region)


def around_both(one, other):
    """Return the least box that contains two boxes."""
    lows = [low if at_most(low, less) else less for low, less in zip(one[0], other[0])]
    highs = [high if at_most(more, high) else more for high, more in zip(one[1], other[1])]
    return (tuple(lows), tuple(highs), ())


def seek(loop, start, safe, *, turns):
    """Return a warrant for one of so many boxes, a run that leaves the safe region, or papers of neither."""
    check_counted(loop, (start, safe), turns, 0)
    box = box_around(start)
    if box is None:
        check_room(loop, 1)
        return warranted(loop, start, safe, start, 1)
    for turn in range(turns):
        if turn > 0:
            box = around_both(box, box_behind(loop, box))
        word, found = warranted(loop, start, safe, box, 1)
        if word == "safe":
            return ("safe", found)
        # A box that is not safe lies in all later ones, so none of them is.
        if word == "leaves":
            break
    word, found = staying(loop, start, safe, turns)
    return ("leaves" if word == "leaves" else "open", found)
