"""The least change of the last layer after which a claim holds (points 1200 to 1203)."""

from kinkmeasure.claims import check_claim
from kinkmeasure.errors import BadClaim, BadNetwork, BadPaper
from kinkmeasure.greatest import highest_near
from kinkmeasure.judge import is_form, judge
from kinkmeasure.leaves import Ground
from kinkmeasure.networks import check, check_plain, out_size, trail
from kinkmeasure.ratios import HALF, ONE, ZERO, absolute, add, is_ratio, multiply, negative, subtract, total
from kinkmeasure.regions import check_region, contains
from kinkmeasure.search import Proof
from kinkmeasure.simplex import topped
from kinkmeasure.systems import check_limit, check_none
from kinkmeasure.vectors import added, combined, dot, is_vector, opposite, scaled, subtracted, unit, zero


def last_layer(network):
    """Return the rows of the last layer, each with its offset behind its weights."""
    _, matrix, offsets = network[1][-1]
    return [row + (offset,) for row, offset in zip(matrix, offsets)]


def change_size(network):
    """Return the number of the items of a change."""
    rows = last_layer(network)
    return len(rows) * len(rows[0])


def changed(network, change):
    """Return the network with a change of its last layer."""
    check_plain(network)
    rows = []
    for place, row in enumerate(last_layer(network)):
        rows.append(added(row, change[place * len(row) : (place + 1) * len(row)]))
    last = ("sums", tuple([row[:-1] for row in rows]), tuple([row[-1] for row in rows]))
    return (network[0], network[1][:-1] + (last,))


def check_repaired(network, claim):
    """Raise BadClaim for a value that is no claim of clauses of one bound each."""
    check_claim(out_size(network), claim)
    if any([len(clause) != 1 for clause in claim]):
        raise BadClaim()


def check_all(network, region, claim):
    """Raise what is due for a network, a region and a claim that can be repaired on."""
    check_plain(network)
    check_region(network[0], region)
    check_repaired(network, claim)


def bounds_at(network, claim, point):
    """Return the bounds over the items of a change that say that the claim holds at a point."""
    passing = trail(network, point)
    taken = passing[-2] + (ONE,)
    found = []
    for clause in claim:
        vector, limit = clause[0]
        line = ()
        for item in vector:
            line = line + scaled(item, taken)
        found.append((line, subtract(limit, dot(vector, passing[-1]))))
    return found


def change_rows(network, claim, points):
    """Return the bounds of a change: at each point each clause holds, and each item has a size."""
    check_plain(network)
    check_repaired(network, claim)
    many = change_size(network)
    nothing = zero(many)
    rows = []
    for point in points:
        rows.extend([(line + nothing, limit) for line, limit in bounds_at(network, claim, point)])
    for index in range(many):
        line = unit(many, index)
        rows.append((line + opposite(line), ZERO))
        rows.append((opposite(line) + opposite(line), ZERO))
    return tuple(rows)


def cost_vector(network):
    """Return the vector over a change and its sizes that is the contrary of the sum of the sizes."""
    check_plain(network)
    many = change_size(network)
    return zero(many) + (negative(ONE),) * many


class Repair:
    """The search for the least change, with the points that ask for it so far.

    The least cost is asked for the other way round: how much of the bounds at the points must be added
    up, each item of the sum being at most 1 and at least -1, for the greatest cost to be shown.
    """

    def __init__(self, network, region, claim):
        self.network = network
        self.region = region
        self.claim = claim
        self.many = change_size(network)
        self.points = []
        self.asked = []

    def take(self, point):
        """Ask for the claim at a further point."""
        self.points.append(point)
        self.asked.extend(bounds_at(self.network, self.claim, point))

    def best(self):
        """Return the answer of the linear system over the shares of the bounds."""
        count = len(self.asked)
        rows = []
        for index in range(self.many):
            line = tuple([vector[index] for vector, _ in self.asked])
            rows.append((line, ONE))
            rows.append((opposite(line), ONE))
        rows.extend([(opposite(unit(count, index)), ZERO) for index in range(count)])
        return topped(count, tuple(rows), tuple([negative(limit) for _, limit in self.asked]), ())

    def change(self, multipliers):
        """Return the change that the multipliers of the linear system make."""
        return tuple([subtract(multipliers[2 * index + 1], multipliers[2 * index]) for index in range(self.many)])

    def used(self, shares):
        """Return the points whose bounds have shares, and these shares alone."""
        each = len(self.claim)
        points = []
        kept = []
        for place, point in enumerate(self.points):
            part = shares[place * each : (place + 1) * each]
            if part != zero(each):
                points.append(point)
                kept.extend(part)
        return tuple(points), tuple(kept)

    def shown(self, shares):
        """Return the points and the multipliers that show the cost of which these are the shares."""
        points, kept = self.used(shares)
        sums = combined(shares, [vector for vector, _ in self.asked]) if self.asked != [] else zero(self.many)
        sizes = []
        for item in sums:
            sizes.append(multiply(HALF, subtract(ONE, item)))
            sizes.append(multiply(HALF, add(ONE, item)))
        return points, kept + tuple(sizes)

    def look(self, other):
        """Return papers that the claim holds for a network, or take a point at which it does not: then None."""
        ground = Ground(other, self.region)
        papers = []
        for clause in self.claim:
            proof = Proof(ground, clause)
            point = proof.go_on()
            if point is not None:
                # The corners of the pieces are finitely many, so this is done finitely often.
                self.take(highest_near(other, self.region, clause[0][0], point)[1])
                return None
            papers.append(proof.paper)
        return tuple(papers)

    def answer(self):
        """Return the least change with what shows it, or what shows that there is none."""
        while True:
            found = self.best()
            if found[0] == "endless":
                points, kept = self.used(found[2])
                return ("hopeless", points, kept + zero(2 * self.many))
            change = self.change(found[2])
            other = changed(self.network, change)
            papers = self.look(other)
            if papers is not None:
                points, multipliers = self.shown(found[1])
                cost = total([absolute(item) for item in change])
                return ("repaired", other, cost, papers, points, multipliers)


def repair(network, region, claim):
    """Return the network with the least change after which the claim holds, or why there is none."""
    check_all(network, region, claim)
    return Repair(network, region, claim).answer()


def change_between(network, other):
    """Return the change that leads from a plain network to a value, or None if none does."""
    try:
        check(other)
    except BadNetwork:
        return None
    if other[0] != network[0] or len(other[1]) != len(network[1]) or other[1][:-1] != network[1][:-1]:
        return None
    layer = other[1][-1]
    if layer[0] != "sums" or len(layer[1]) != len(network[1][-1][1]):
        return None
    change = ()
    for row, later in zip(last_layer(network), last_layer(other)):
        change = change + subtracted(later, row)
    return change


def are_points(region, value):
    """Tell whether a value is a tuple of points of a region."""
    if not isinstance(value, tuple):
        return False
    size = len(region[0])
    return all([is_vector(point, size=size) and contains(region, point) for point in value])


def is_cheapest(network, claim, cost, points, multipliers):
    """Tell whether multipliers show that no change costs less."""
    bound = (cost_vector(network), negative(cost))
    try:
        check_limit(2 * change_size(network), change_rows(network, claim, points), bound, multipliers)
    except BadPaper:
        return False
    return True


def is_hopeless(network, claim, points, multipliers):
    """Tell whether multipliers show that there is no change with which the claim holds at the points."""
    try:
        check_none(2 * change_size(network), change_rows(network, claim, points), multipliers)
    except BadPaper:
        return False
    return True


def judge_repair(network, region, claim, answer):
    """Tell whether a value is what `repair` may return (point 1203)."""
    check_all(network, region, claim)
    if is_form(answer, "hopeless", 2):
        return are_points(region, answer[1]) and is_hopeless(network, claim, answer[1], answer[2])
    if not is_form(answer, "repaired", 5):
        return False
    _, other, cost, papers, points, multipliers = answer
    change = change_between(network, other)
    if change is None or not is_ratio(cost) or total([absolute(item) for item in change]) != cost:
        return False
    if not are_points(region, points) or not is_cheapest(network, claim, cost, points, multipliers):
        return False
    return judge(other, region, claim, papers)
