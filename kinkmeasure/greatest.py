"""The greatest and the least value of a form of the outputs on a region (points 700 to 704)."""

from kinkmeasure.errors import BadVector
from kinkmeasure.judge import is_form, judge_case
from kinkmeasure.leaves import Ground
from kinkmeasure.networks import check_plain, out_size, run
from kinkmeasure.pieces import pattern, piece_form, piece_rows
from kinkmeasure.ratios import is_ratio, negative
from kinkmeasure.regions import check_region, contains, point_of
from kinkmeasure.search import Proof
from kinkmeasure.simplex import topped
from kinkmeasure.vectors import combined, dot, is_vector, opposite


def check_all(network, region, vector):
    """Raise what is due for a network, a region and a vector for its outputs."""
    check_plain(network)
    check_region(network[0], region)
    if not is_vector(vector, size=out_size(network)):
        raise BadVector()


def highest_near(network, region, vector, point):
    """Return the value and the point where the form is greatest on the piece of a point."""
    phases = pattern(network, point)
    matrix, _ = piece_form(network, phases)
    found = topped(network[0], piece_rows(network, region, phases), combined(vector, matrix), ())
    return dot(vector, run(network, found[1])), found[1]


def empty_paper(ground):
    """Return the paper that a region without points has none."""
    proof = Proof(ground, ())
    proof.go_on()
    return proof.paper


def climbed(ground, vector, value, point):
    """Return the value, the point and the paper where a form is greatest, if it has the value at the point."""
    proof = Proof(ground, ((vector, value),))
    higher = proof.go_on()
    while higher is not None:
        value, point = highest_near(ground.network, ground.region, vector, higher)
        # What is shown so far is shown for the greater value, too, so the search need not begin anew.
        proof.aim(((vector, value),))
        higher = proof.go_on()
    return value, point, proof.paper


def greatest(network, region, vector):
    """Return where a form of the outputs is greatest, or a paper that the region has no point."""
    check_all(network, region, vector)
    ground = Ground(network, region)
    start = point_of(region)
    if start[0] == "none":
        return ("empty", empty_paper(ground))
    value, point = highest_near(network, region, vector, start[1])
    value, point, paper = climbed(ground, vector, value, point)
    return ("greatest", value, point, paper)


def least(network, region, vector):
    """Return where a form of the outputs is least, or a paper that the region has no point."""
    check_all(network, region, vector)
    answer = greatest(network, region, opposite(vector))
    if answer[0] == "empty":
        return answer
    return ("least", negative(answer[1]), answer[2], answer[3])


def is_reached(network, region, vector, value, point):
    """Tell whether values are a ratio and a point of the region at which the form has it."""
    if not is_ratio(value) or not is_vector(point, size=network[0]):
        return False
    return contains(region, point) and dot(vector, run(network, point)) == value


def judge_greatest(network, region, vector, answer):
    """Tell whether a value is what `greatest` may return."""
    check_all(network, region, vector)
    if is_form(answer, "empty", 1):
        return judge_case(network, region, (), answer[1])
    if not is_form(answer, "greatest", 3) or not is_reached(network, region, vector, answer[1], answer[2]):
        return False
    return judge_case(network, region, ((vector, answer[1]),), answer[3])


def judge_least(network, region, vector, answer):
    """Tell whether a value is what `least` may return."""
    check_all(network, region, vector)
    if is_form(answer, "empty", 1):
        return judge_case(network, region, (), answer[1])
    if not is_form(answer, "least", 3) or not is_reached(network, region, vector, answer[1], answer[2]):
        return False
    return judge_case(network, region, ((opposite(vector), negative(answer[1])),), answer[3])
