"""The search for a point that breaks a claim, or for papers that it holds (point 503)."""

from kinkmeasure.claims import check_claim, clause_holds
from kinkmeasure.flatten import flatten
from kinkmeasure.judge import with_phase
from kinkmeasure.leaves import Ground, bound_between, bound_place, goals_with, narrowed, unit_bounds, unit_pairs
from kinkmeasure.leaves import widened_rows
from kinkmeasure.networks import followed, out_size
from kinkmeasure.pieces import unit_values
from kinkmeasure.ratios import ONE, ZERO, absolute, add, at_most, greatest, less, multiply, negative, subtract
from kinkmeasure.regions import check_region, keeps
from kinkmeasure.simplex import solved, topped
from kinkmeasure.systems import summed
from kinkmeasure.vectors import dot, mixed, opposite, scaled, subtracted, unit, zero


def fate_of(phase, low, high):
    """Return True if a unit surely gives its value, False if it surely gives 0, otherwise None."""
    if phase is not None:
        return phase
    if low[0] >= 0:
        return True
    return False if high[0] <= 0 else None


def value_at(form, point):
    """Return the value of a form at a point."""
    return add(form[0], dot(form[1:], point))


class Sketch:
    """What the ranges alone show for phases, without a linear system.

    A goal is led back to the inputs: each unit is replaced by one of its bounds, the last one first.
    """

    def __init__(self, ground, phases, ranges):
        self.ground = ground
        self.phases = phases
        self.ranges = ranges
        self.first = 2 * ground.size + len(ground.region[2])
        self.many = self.first + 3 * ground.count

    def nowhere(self, goals):
        """Return the leaf that shows that there is no point if a low is greater than its high, or None."""
        lows, highs, _ = self.ground.region
        for index in range(self.ground.size):
            if less(highs[index], lows[index]):
                pair = zero(2 * index) + (ONE, ONE) + zero(self.many - 2 * index - 2)
                return ("leaf", pair, zero(len(goals)))
        return None

    def led_back(self, vector):
        """Return multipliers of bounds of units that lead a vector back, the inputs' items, and the limit."""
        size = self.ground.size
        multipliers = [ZERO] * self.many
        left = vector
        limit = ZERO
        for index in range(self.ground.count - 1, -1, -1):
            item = left[size + index]
            if item == ZERO:
                continue
            low, high = self.ranges[index]
            which = bound_place(self.phases[index], low, high, item[0] > 0)
            given = unit(1 + len(vector), 1 + size + index)
            pairs = unit_pairs(self.phases[index], given, self.ground.unit_forms[index], low, high)
            line, most = bound_between(pairs[which][0], pairs[which][1])
            multipliers[self.first + 3 * index + which] = absolute(item)
            left = subtracted(left, scaled(absolute(item), line))
            limit = add(limit, multiply(absolute(item), most))
        return multipliers, left[:size], limit

    def look(self, vector):
        """Return multipliers, the limit that they show for a vector, and the corner where it may be reached."""
        lows, highs, _ = self.ground.region
        multipliers, items, limit = self.led_back(vector)
        corner = []
        for index, item in enumerate(items):
            multipliers[2 * index if item[0] > 0 else 2 * index + 1] = absolute(item)
            corner.append(highs[index] if item[0] > 0 else lows[index])
            limit = add(limit, multiply(item, corner[-1]))
        return tuple(multipliers), limit, tuple(corner)

    def answer(self, goals, clause):
        """Return a right leaf, ("point", point) with a point that breaks the clause, or None."""
        found = self.nowhere(goals)
        for place, (vector, most) in enumerate(goals):
            if found is None:
                multipliers, limit, corner = self.look(vector)
                if at_most(limit, most):
                    found = ("leaf", multipliers, unit(len(goals), place))
                elif self.is_broken(clause, corner):
                    found = ("point", corner)
        return found

    def is_broken(self, clause, corner):
        """Tell whether a corner lies in the region and breaks the clause."""
        if not all(keeps(bound, corner) for bound in self.ground.region[2]):
            return False
        return not clause_holds(clause, followed(self.ground.network[1], corner)[-1])


class Relaxation:
    """The bounds of a leaf over the inputs and those units alone that are really open.

    What other units give is put in, so the system is small. Each bound has the place of the bound
    of the leaf that it comes from.
    """

    def __init__(self, ground, phases, ranges):
        self.ground = ground
        self.phases = phases
        self.ranges = ranges
        self.fates = tuple([fate_of(phase, low, high) for phase, (low, high) in zip(phases, self.ranges)])
        self.forms, self.parts = narrowed(ground.unit_forms, ground.size, self.fates)
        self.free = [index for index, fate in enumerate(self.fates) if fate is None]
        self.size = ground.size + len(self.free)
        self.rows = widened_rows(ground.region, len(self.free))
        self.origins = list(range(len(self.rows)))
        self.append_units()

    def append_units(self):
        """Append the bounds of the open units, and those that the phases of the others ask for."""
        base = len(self.rows)
        ahead = 1 + self.ground.size
        for index, value in enumerate(self.forms):
            first = base + 3 * index
            low, high = self.ranges[index]
            if self.fates[index] is None:
                self.rows.extend(unit_bounds(None, unit(1 + self.size, ahead), value, low, high))
                self.origins.extend([first, first + 1, first + 2])
                ahead += 1
            elif self.phases[index] is not None:
                self.rows.append(unit_bounds(self.phases[index], value, value, low, high)[2])
                self.origins.append(first + 2)

    def form(self, goal):
        """Return the form that says how far a goal is missed, over the variables of the system."""
        vector, limit = goal
        return mixed((negative(limit),) + vector, self.parts, 1 + self.size)

    def widest(self, point):
        """Return the open unit for which most lies between the variable and what the unit gives."""
        found = None
        most = ZERO
        for place, index in enumerate(self.free):
            value = value_at(self.forms[index], point)
            gap = subtract(point[self.ground.size + place], greatest((ZERO, value)))
            if less(most, gap):
                found = index
                most = gap
        return found

    def place_for(self, index, positive):
        """Return the place of the bound that a settled unit's variable is at most, or else at least."""
        low, high = self.ranges[index]
        first = 2 * self.ground.size + len(self.ground.region[2])
        return first + 3 * index + bound_place(self.phases[index], low, high, positive)

    def leaf(self, multipliers, goals, shares):
        """Return the leaf with these multipliers, and those that the settled units need for it."""
        rows = self.ground.leaf_rows(self.phases)
        every = [ZERO] * len(rows)
        for place, ratio in zip(self.origins, multipliers):
            every[place] = ratio
        wide = self.ground.size + self.ground.count
        left = subtracted(summed(wide, goals, shares)[0], summed(wide, rows, every)[0])
        # A unit takes part in the values of later ones alone, so the last one is put right first.
        # Of open units nothing is left, since the small system has their variables, too.
        for index in range(self.ground.count - 1, -1, -1):
            item = left[self.ground.size + index]
            if item != ZERO:
                place = self.place_for(index, item[0] > 0)
                every[place] = absolute(item)
                left = subtracted(left, scaled(absolute(item), rows[place][0]))
        return ("leaf", tuple(every), shares)

    def best(self, goals, tight):
        """Return where all goals are missed as far as possible (point 304), and by how much.

        Several goals have one variable more, which is at most what each of them is missed by; the
        multipliers of these bounds are the shares.
        """
        forms = [self.form(goal) for goal in goals]
        hints = [place for place, origin in enumerate(self.origins) if origin in tight]
        if forms == []:
            return solved(self.size, self.rows, hints), ONE
        if len(forms) == 1:
            answer = topped(self.size, self.rows, forms[0][1:], hints)
            return answer, value_at(forms[0], answer[1]) if answer[0] == "greatest" else ZERO
        rows = [(vector + (ZERO,), limit) for vector, limit in self.rows]
        rows.extend([(opposite(form[1:]) + (ONE,), form[0]) for form in forms])
        answer = topped(self.size + 1, rows, unit(self.size + 1, self.size), hints)
        return answer, answer[1][-1] if answer[0] == "greatest" else ZERO

    def reached(self, found):
        """Return those bounds of the leaf, by their places, that matter where all goals are missed most."""
        if found[0] == "point":
            return []
        return [origin for origin, ratio in zip(self.origins, found[2]) if ratio != ZERO]

    def answer(self, goals, tight):
        """Return the right leaf, or ("point", point, tight) with a point that misses all goals.

        The search begins where the bounds of the leaf meet that are called tight.
        """
        found, miss = self.best(goals, tight)
        many = len(self.rows)
        if found[0] == "none":
            return self.leaf(found[1][:many], goals, zero(len(goals)))
        if less(ZERO, miss):
            return ("point", found[1], self.reached(found))
        shares = (ONE,) if len(goals) == 1 else found[2][many:]
        return self.leaf(found[2][:many], goals, shares)


class Proof:
    """A case paper in the making.

    Each case that is begun is a list: the number of the unit, the phase that comes first, the phases
    and the tight bounds ahead of the case, and the paper for the first phase, as soon as there is one.
    """

    def __init__(self, ground, clause):
        self.ground = ground
        self.phases = (None,) * ground.count
        self.tight = []
        self.cases = []
        self.paper = None
        self.aim(clause)

    def aim(self, clause):
        """Take a clause to be shown; leaves that are right for one with less limits stay right."""
        self.clause = clause
        self.goals = goals_with(self.ground.out_forms, clause)

    def part(self, index, first, tight):
        """Begin the cases of a unit with one of its phases."""
        self.cases.append([index, first, self.phases, tight, None])
        self.phases = with_phase(self.phases, index, first)
        self.tight = tight

    def close(self, paper):
        """Take the paper of the present phases; go on with the next case, or end."""
        while self.cases != [] and self.cases[-1][4] is not None:
            index, first, _, _, ahead = self.cases.pop()
            paper = ("unit", index, ahead, paper) if first else ("unit", index, paper, ahead)
        if self.cases == []:
            self.paper = paper
            return
        self.cases[-1][4] = paper
        index, first, phases, tight, _ = self.cases[-1]
        self.phases = with_phase(phases, index, not first)
        self.tight = tight

    def go_on(self):
        """Search up to a point that breaks the clause, which is returned, or the paper: then None."""
        layers = self.ground.network[1]
        while self.paper is None:
            ranges = self.ground.ranges_for(self.phases)
            found = Sketch(self.ground, self.phases, ranges).answer(self.goals, self.clause)
            if found is None:
                relaxation = Relaxation(self.ground, self.phases, ranges)
                found = relaxation.answer(self.goals, self.tight)
            if found[0] == "leaf":
                self.close(found)
                continue
            point = found[1][: self.ground.size]
            passing = followed(layers, point)
            if not clause_holds(self.clause, passing[-1]):
                return point
            index = relaxation.widest(found[1])
            # Where the network goes at the point, a point that breaks the clause is most likely near.
            self.part(index, unit_values(layers, passing)[index][0] > 0, found[2])
        return None


def decide(network, region, claim):
    """Return a point of the region that breaks the claim, or papers that it holds."""
    plain = flatten(network)
    check_region(network[0], region)
    check_claim(out_size(plain), claim)
    ground = Ground(plain, region)
    papers = []
    for clause in claim:
        proof = Proof(ground, clause)
        point = proof.go_on()
        if point is not None:
            return ("breaks", point)
        papers.append(proof.paper)
    return ("holds", tuple(papers))
