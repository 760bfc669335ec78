"""Whether two networks give the same on a region (points 601 and 602)."""

from kinkmeasure.joining import difference, outputs_of
from kinkmeasure.judge import judge
from kinkmeasure.ratios import ZERO
from kinkmeasure.regions import check_region
from kinkmeasure.search import decide
from kinkmeasure.vectors import opposite, unit


def between(size, value):
    """Return the claim that no output is greater than the value, and no contrary of one."""
    claim = []
    for index in range(size):
        line = unit(size, index)
        claim.append(((line, value),))
        claim.append(((opposite(line), value),))
    return tuple(claim)


def checked_difference(one, other, region):
    """Return the difference of two networks; raise what is due for them and the region."""
    network = difference(one, other)
    check_region(network[0], region)
    return network


def alike(one, other, region):
    """Return a point at which the networks differ, or papers that they do not."""
    network = checked_difference(one, other, region)
    answer = decide(network, region, between(outputs_of(network), ZERO))
    if answer[0] == "breaks":
        return ("unlike", answer[1])
    return ("alike", answer[1])


def judge_alike(one, other, region, papers):
    """Tell whether a value is papers that the networks are alike on the region."""
    network = checked_difference(one, other, region)
    return judge(network, region, between(outputs_of(network), ZERO), papers)
