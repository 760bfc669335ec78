"""Points 403 to 407 and 500, worked out a second time by Python's own fractions."""

from fractions import Fraction

from helpers import bound, fraction, fractions, ratio


def forms_by(network):
    """The forms of the units' values and of the outputs: lists of items, the constant last."""
    inputs = network[0]
    count = sum(sum(layer[1]) for layer in network[1] if layer[0] == "bends")
    wide = inputs + count + 1

    def line(index):
        return [Fraction(int(place == index)) for place in range(wide)]

    forms = [line(index) for index in range(inputs)]
    values = []
    for layer in network[1]:
        if layer[0] == "sums":
            found = []
            for row, offset in zip(layer[1], layer[2]):
                form = [sum((fraction(w) * old[place] for w, old in zip(row, forms)), Fraction(0))
                        for place in range(wide)]
                form[-1] += fraction(offset)
                found.append(form)
            forms = found
        else:
            found = []
            for flag, form in zip(layer[1], forms):
                if flag:
                    values.append(form)
                    found.append(line(inputs + len(values) - 1))
                else:
                    found.append(form)
            forms = found
    return values, forms


def ranges_by(network, region, phases):
    """The ranges of the units' values, of what they give, and of the outputs, as pairs of fractions."""
    pairs = list(zip(fractions(region[0]), fractions(region[1])))
    values = []
    given = []
    for layer in network[1]:
        if layer[0] == "sums":
            found = []
            for row, offset in zip(layer[1], layer[2]):
                low = high = fraction(offset)
                for w, (a, b) in zip(fractions(row), pairs):
                    low += w * a if w > 0 else w * b
                    high += w * b if w > 0 else w * a
                found.append((low, high))
            pairs = found
        else:
            for index, flag in enumerate(layer[1]):
                if flag:
                    low, high = pairs[index]
                    values.append((low, high))
                    pairs[index] = (max(low, 0), max(high, 0))
                    if phases[len(given)] is False:
                        pairs[index] = (Fraction(0), Fraction(0))
                    given.append(pairs[index])
    return values, given, pairs


def at_most_by(one, other):
    """The bound that one form is at most another one."""
    return bound([a - b for a, b in zip(one, other)][:-1], other[-1] - one[-1])


def leaf_rows_by(network, region, phases):
    """The bounds of a leaf."""
    values, _ = forms_by(network)
    ranges = ranges_by(network, region, phases)[0]
    wide = network[0] + len(values)
    lows, highs, bounds = region
    rows = []
    for index in range(network[0]):
        line = [int(place == index) for place in range(wide)]
        rows.append(bound(line, fraction(highs[index])))
        rows.append(bound([-item for item in line], -fraction(lows[index])))
    for vector, limit in bounds:
        rows.append((vector + ((0, 1),) * len(values), limit))
    none = [Fraction(0)] * (wide + 1)
    for index, (value, (low, high)) in enumerate(zip(values, ranges)):
        p = [Fraction(int(place == network[0] + index)) for place in range(wide + 1)]
        if phases[index] is True:
            pairs = [(p, value), (value, p), (none, value)]
        elif phases[index] is False:
            pairs = [(p, none), (none, p), (value, none)]
        else:
            pairs = [(none, p), (value, p)]
            if low >= 0:
                pairs.append((p, value))
            elif high <= 0:
                pairs.append((p, none))
            else:
                share = high / (high - low)
                line = [share * item for item in value]
                line[-1] -= share * low
                pairs.append((p, line))
        rows.extend(at_most_by(one, other) for one, other in pairs)
    return tuple(rows)


def goal_rows_by(network, clause):
    """The goals of a clause."""
    _, outputs = forms_by(network)
    rows = []
    for vector, limit in clause:
        form = [sum(column, Fraction(0)) for column in
                zip(*[[fraction(w) * item for item in output] for w, output in zip(vector, outputs)])]
        rows.append(bound(form[:-1], fraction(limit) - form[-1]))
    return tuple(rows)


def are_ratios(value, count):
    """Whether a value is a tuple of so many ratios from 0 on."""
    if type(value) is not tuple or len(value) != count:
        return False
    for item in value:
        if type(item) is not tuple or len(item) != 2 or any(type(part) is not int for part in item):
            return False
        if item[1] < 1 or item[0] < 0 or ratio(Fraction(*item)) != item:
            return False
    return True


def sum_by(rows, ratios, wide):
    found = [Fraction(0)] * (wide + 1)
    for (vector, limit), share in zip(rows, fractions(ratios)):
        if share:
            items = fractions(vector) + [fraction(limit)]
            found = [old + share * item for old, item in zip(found, items)]
    return found


def is_leaf_by(network, region, phases, clause, multipliers, shares):
    """Whether a leaf is right."""
    rows = leaf_rows_by(network, region, phases)
    if not are_ratios(multipliers, len(rows)) or not are_ratios(shares, len(clause)):
        return False
    wide = network[0] + len(phases)
    left = sum_by(rows, multipliers, wide)
    right = sum_by(goal_rows_by(network, clause), shares, wide)
    share = sum(fractions(shares))
    if left[:-1] != right[:-1]:
        return False
    return left[-1] <= right[-1] if share == 1 else share == 0 and left[-1] < 0


def is_paper_by(network, region, clause, paper, phases=None):
    """Whether a case paper for a plain network is right."""
    if phases is None:
        phases = (None,) * sum(sum(layer[1]) for layer in network[1] if layer[0] == "bends")
    if type(paper) is not tuple or paper == ():
        return False
    if paper[0] == "leaf" and len(paper) == 3:
        return is_leaf_by(network, region, phases, clause, paper[1], paper[2])
    if paper[0] != "unit" or len(paper) != 4 or type(paper[1]) is not int:
        return False
    k = paper[1]
    if k < 0 or k >= len(phases) or phases[k] is not None:
        return False
    return (is_paper_by(network, region, clause, paper[2], phases[:k] + (True,) + phases[k + 1:])
            and is_paper_by(network, region, clause, paper[3], phases[:k] + (False,) + phases[k + 1:]))
