"""Points 403 to 407, 500, 1100 and 1101, worked out a second time by Python's own fractions."""

from fractions import Fraction
from itertools import combinations, product

from helpers import bound, fraction, fractions, ratio


def forms_by(network):
    """The forms of the units' values and of the outputs: lists of items, the constant last."""
    inputs = network[0]
    count = sum(sum(layer[1]) for layer in network[1] if layer[0] == "bends")
    wide = inputs + count + 1

    def line(index):
        return [Fraction(int(place == index)) for place in range(wide)]

    forms = [line(index) for index in range(inputs)]
    values = []
    for layer in network[1]:
        if layer[0] == "sums":
            found = []
            for row, offset in zip(layer[1], layer[2]):
                form = [sum((fraction(w) * old[place] for w, old in zip(row, forms)), Fraction(0))
                        for place in range(wide)]
                form[-1] += fraction(offset)
                found.append(form)
            forms = found
        else:
            found = []
            for flag, form in zip(layer[1], forms):
                if flag:
                    values.append(form)
                    found.append(line(inputs + len(values) - 1))
                else:
                    found.append(form)
            forms = found
    return values, forms


def ranges_by(network, region, phases):
    """The ranges of the units' values, of what they give, and of the outputs, as pairs of fractions."""
    pairs = list(zip(fractions(region[0]), fractions(region[1])))
    values = []
    given = []
    for layer in network[1]:
        if layer[0] == "sums":
            found = []
            for row, offset in zip(layer[1], layer[2]):
                low = high = fraction(offset)
                for w, (a, b) in zip(fractions(row), pairs):
                    low += w * a if w > 0 else w * b
                    high += w * b if w > 0 else w * a
                found.append((low, high))
            pairs = found
        else:
            for index, flag in enumerate(layer[1]):
                if flag:
                    low, high = pairs[index]
                    values.append((low, high))
                    pairs[index] = (max(low, 0), max(high, 0))
                    if phases[len(given)] is False:
                        pairs[index] = (Fraction(0), Fraction(0))
                    given.append(pairs[index])
    return values, given, pairs


def at_most_by(one, other):
    """The bound that one form is at most another one."""
    return bound([a - b for a, b in zip(one, other)][:-1], other[-1] - one[-1])


def leaf_rows_by(network, region, phases):
    """The bounds of a leaf."""
    values, _ = forms_by(network)
    ranges = ranges_by(network, region, phases)[0]
    wide = network[0] + len(values)
    lows, highs, bounds = region
    rows = []
    for index in range(network[0]):
        line = [int(place == index) for place in range(wide)]
        rows.append(bound(line, fraction(highs[index])))
        rows.append(bound([-item for item in line], -fraction(lows[index])))
    for vector, limit in bounds:
        rows.append((vector + ((0, 1),) * len(values), limit))
    none = [Fraction(0)] * (wide + 1)
    for index, (value, (low, high)) in enumerate(zip(values, ranges)):
        p = [Fraction(int(place == network[0] + index)) for place in range(wide + 1)]
        if phases[index] is True:
            pairs = [(p, value), (value, p), (none, value)]
        elif phases[index] is False:
            pairs = [(p, none), (none, p), (value, none)]
        else:
            pairs = [(none, p), (value, p)]
            if low >= 0:
                pairs.append((p, value))
            elif high <= 0:
                pairs.append((p, none))
            else:
                share = high / (high - low)
                line = [share * item for item in value]
                line[-1] -= share * low
                pairs.append((p, line))
        rows.extend(at_most_by(one, other) for one, other in pairs)
    return tuple(rows)


def goal_rows_by(network, clause):
    """The goals of a clause."""
    _, outputs = forms_by(network)
    rows = []
    for vector, limit in clause:
        form = [sum(column, Fraction(0)) for column in
                zip(*[[fraction(w) * item for item in output] for w, output in zip(vector, outputs)])]
        rows.append(bound(form[:-1], fraction(limit) - form[-1]))
    return tuple(rows)


def are_ratios(value, count):
    """Whether a value is a tuple of so many ratios from 0 on."""
    if type(value) is not tuple or len(value) != count:
        return False
    for item in value:
        if type(item) is not tuple or len(item) != 2 or any(type(part) is not int for part in item):
            return False
        if item[1] < 1 or item[0] < 0 or ratio(Fraction(*item)) != item:
            return False
    return True


def sum_by(rows, ratios, wide):
    found = [Fraction(0)] * (wide + 1)
    for (vector, limit), share in zip(rows, fractions(ratios)):
        if share:
            items = fractions(vector) + [fraction(limit)]
            found = [old + share * item for old, item in zip(found, items)]
    return found


def is_leaf_by(network, region, phases, clause, multipliers, shares):
    """Whether a leaf is right."""
    rows = leaf_rows_by(network, region, phases)
    if not are_ratios(multipliers, len(rows)) or not are_ratios(shares, len(clause)):
        return False
    wide = network[0] + len(phases)
    left = sum_by(rows, multipliers, wide)
    right = sum_by(goal_rows_by(network, clause), shares, wide)
    share = sum(fractions(shares))
    if left[:-1] != right[:-1]:
        return False
    return left[-1] <= right[-1] if share == 1 else share == 0 and left[-1] < 0


def is_paper_by(network, region, clause, paper, phases=None):
    """Whether a case paper for a plain network is right."""
    if phases is None:
        phases = (None,) * sum(sum(layer[1]) for layer in network[1] if layer[0] == "bends")
    if type(paper) is not tuple or paper == ():
        return False
    if paper[0] == "leaf" and len(paper) == 3:
        return is_leaf_by(network, region, phases, clause, paper[1], paper[2])
    if paper[0] != "unit" or len(paper) != 4 or type(paper[1]) is not int:
        return False
    k = paper[1]
    if k < 0 or k >= len(phases) or phases[k] is not None:
        return False
    return (is_paper_by(network, region, clause, paper[2], phases[:k] + (True,) + phases[k + 1:])
            and is_paper_by(network, region, clause, paper[3], phases[:k] + (False,) + phases[k + 1:]))


def tightened(rows):
    """Bounds with one for each direction, as a dict of limits, or None if one holds nowhere."""
    found = {}
    for line, limit in rows:
        lead = next((abs(x) for x in line if x), None)
        if lead is None:
            if limit < 0:
                return None
            continue
        key = tuple(x / lead for x in line)
        found[key] = min(found.get(key, limit / lead), limit / lead)
    return found


def facet_volume(size, rows):
    """The volume of a bounded set, led back to the volumes of its facets; rows of fractions."""
    limits = tightened(rows)
    if limits is None:
        return Fraction(0)
    if size == 1:
        high = min(limit for (x,), limit in limits.items() if x > 0)
        low = max(-limit for (x,), limit in limits.items() if x < 0)
        return max(high - low, Fraction(0))
    found = Fraction(0)
    for line, limit in limits.items():
        if limit == 0:
            continue
        at = next(place for place, x in enumerate(line) if x)
        others = []
        for other, most in limits.items():
            if other != line:
                share = other[at] / line[at]
                put_in = [x - share * y for x, y in zip(other, line)]
                others.append((put_in[:at] + put_in[at + 1:], most - share * limit))
        found += limit / abs(line[at]) * facet_volume(size - 1, others)
    return found / size


def volume_by(size, rows):
    """The volume of the bounded set of the points that keep all bounds."""
    return facet_volume(size, [(fractions(line), fraction(limit)) for line, limit in rows])


def measure_by(network, region, claim):
    """Both numbers of point 1101 for a plain network, over all phases and all sets of clauses."""
    values, outputs = forms_by(network)
    size = network[0]
    base = [(fractions(line), fraction(limit)) for line, limit in region[2]]
    for index, (low, high) in enumerate(zip(fractions(region[0]), fractions(region[1]))):
        line = [Fraction(int(place == index)) for place in range(size)]
        base += [(line, high), ([-x for x in line], -low)]
    broken = Fraction(0)
    for phases in product((True, False), repeat=len(values)):
        forms = []
        rows = list(base)

        def over_inputs(form):
            found = form[:size] + [form[-1]]
            for share, put_in in zip(form[size:-1], forms):
                found = [x + share * y for x, y in zip(found, put_in)]
            return found

        for phase, value in zip(phases, values):
            form = over_inputs(value)
            # A value that is 0 all over has both phases, but counts once.
            here = form if phase or any(form) else [Fraction(0)] * size + [Fraction(1)]
            rows.append(([-x for x in here[:-1]], here[-1]) if phase else (here[:-1], -here[-1]))
            forms.append(form if phase else [Fraction(0)] * (size + 1))
        ends = [over_inputs(form) for form in outputs]
        for many in range(1, len(claim) + 1):
            for clauses in combinations(claim, many):
                missed = []
                for line, limit in [row for clause in clauses for row in clause]:
                    form = [sum((w * end[place] for w, end in zip(fractions(line), ends)), Fraction(0))
                            for place in range(size + 1)]
                    # A form that is just the limit all over keeps the bound.
                    over = form[-1] - fraction(limit) if any(form[:-1]) or form[-1] != fraction(limit) else Fraction(-1)
                    missed.append(([-x for x in form[:-1]], over))
                broken += (-1) ** (many + 1) * facet_volume(size, rows + missed)
    return facet_volume(size, base), broken
