"""How far the outputs of two networks are apart on a region (points 705 and 706)."""

from kinkmeasure.alike import between, checked_difference
from kinkmeasure.greatest import climbed, empty_paper
from kinkmeasure.joining import outputs_of
from kinkmeasure.judge import is_form, judge, judge_case
from kinkmeasure.leaves import Ground
from kinkmeasure.networks import run
from kinkmeasure.ratios import ZERO, absolute, greatest, is_ratio
from kinkmeasure.regions import contains, point_of
from kinkmeasure.vectors import is_vector


def distance(one, other, region):
    """Return how far two networks are apart, where, and the papers, or a paper that there is no point."""
    network = checked_difference(one, other, region)
    ground = Ground(network, region)
    start = point_of(region)
    if start[0] == "none":
        return ("empty", empty_paper(ground))
    point = start[1]
    value = greatest([absolute(item) for item in run(network, point)])
    papers = []
    for clause in between(outputs_of(network), ZERO):
        # Each search goes on from the farthest point so far; the papers ahead hold for greater values, too.
        value, point, paper = climbed(ground, clause[0][0], value, point)
        papers.append(paper)
    return ("distance", value, point, tuple(papers))


def is_apart(network, region, value, point):
    """Tell whether values are a ratio and a point of the region at which an output has it, or its contrary."""
    if not is_ratio(value) or not is_vector(point, size=network[0]) or not contains(region, point):
        return False
    return value in [absolute(item) for item in run(network, point)]


def judge_distance(one, other, region, answer):
    """Tell whether a value is what `distance` may return."""
    network = checked_difference(one, other, region)
    if is_form(answer, "empty", 1):
        return judge_case(network, region, (), answer[1])
    if not is_form(answer, "distance", 3) or not is_apart(network, region, answer[1], answer[2]):
        return False
    return judge(network, region, between(outputs_of(network), answer[1]), answer[3])
