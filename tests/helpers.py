"""What the tests share: drawn values, runs by Python's own fractions, and values of any kind."""

import random
from fractions import Fraction

from kinkmeasure.ratios import make

# Values of the kinds that point 101 names, none of which is a ratio, a vector or an integer.
STRANGE = [
    None, True, False, 1.5, 2.0, float("nan"), float("inf"), 2j, "", "a", "0", "sums", "1/2",
    [], [1, 2], [(1, 1)], [[(0, 1)]], ([],), ((((),),),), ("sums",), ("bends", 1, 2),
]
# The same, with values that are right in some places.
JUNK = STRANGE + [0, 1, -1, 2, 10**700, -(10**700), (), (1,), (1, 2), (0, 1), (2, 4), (1, 0), (1, -2),
                  (True, 1), (1, True), (0, 2), (1.0, 1), (1, 2, 3), ((1, 1),), ((1, 2), (0, 1)),
                  (((1, 1),),), ("bends", (True,)), ("bends", ()), (True,), (False, True)]


def ratio(value):
    """The ratio of an integer or a fraction."""
    value = Fraction(value)
    return (value.numerator, value.denominator)


def vector(*values):
    return tuple(ratio(value) for value in values)


def matrix(*rows):
    return tuple(vector(*row) for row in rows)


def fraction(pair):
    return Fraction(pair[0], pair[1])


def fractions(pairs):
    return [fraction(pair) for pair in pairs]


def sums(rows, offsets):
    return ("sums", matrix(*rows), vector(*offsets))


def bound(values, limit):
    return (vector(*values), ratio(limit))


class Draw:
    """Drawn values; the same seed draws the same ones."""

    def __init__(self, seed):
        self.random = random.Random(seed)

    def integer(self, low, high):
        return self.random.randint(low, high)

    def chance(self, share):
        return self.random.random() < share

    def pick(self, values):
        return self.random.choice(values)

    def ratio(self, most=6, below=4):
        return make(self.integer(-most, most), self.integer(1, below))

    def long_ratio(self, figures):
        return make(self.integer(-(10**figures), 10**figures), self.integer(1, 10**figures))

    def vector(self, size, most=6, below=4):
        return tuple(self.ratio(most, below) for _ in range(size))

    def matrix(self, rows, columns):
        return tuple(self.vector(columns) for _ in range(rows))

    def group(self, taken):
        many = self.integer(1, taken)
        return tuple(sorted(self.random.sample(range(taken), many)))

    def layer(self, kind, taken):
        if kind == "sums":
            rows = self.integer(1, 4)
            return ("sums", self.matrix(rows, taken), self.vector(rows))
        if kind == "bends":
            return ("bends", tuple(self.chance(0.6) for _ in range(taken)))
        if kind == "greatest":
            return ("greatest", tuple(self.group(taken) for _ in range(self.integer(1, 4))))
        wide = self.integer(1, taken)
        return ("window", self.integer(1, 4), self.vector(wide), self.ratio())

    def network(self, size=None, kinds=None):
        """A network with layers of these kinds, or of up to five drawn ones."""
        size = self.integer(1, 5) if size is None else size
        if kinds is None:
            every = ["sums", "bends", "greatest", "window"]
            kinds = [self.pick(every) for _ in range(self.integer(0, 5))]
        taken = size
        layers = []
        for kind in kinds:
            layers.append(self.layer(kind, taken))
            taken = given_by(layers[-1], taken)
        return (size, tuple(layers))

    def plain(self, size=None, depth=None):
        depth = self.integer(0, 2) if depth is None else depth
        return self.network(size, ["sums"] + ["bends", "sums"] * depth)

    def point(self, size):
        """A point, in which numbers that are equal or zero are not rare."""
        if self.chance(0.3):
            return tuple(self.pick([(0, 1), (1, 1), (-1, 1)]) for _ in range(size))
        return self.vector(size)

    def system(self, size, many):
        most = self.pick([1, 2, 6])
        rows = []
        for _ in range(many):
            row = tuple(self.ratio(most, 2) if self.chance(0.7) else (0, 1) for _ in range(size))
            rows.append((row, self.ratio(self.pick([0, 1, 5]), 3)))
        if rows and self.chance(0.2):
            rows = rows + rows
        return tuple(rows)


    def region(self, size, many=None):
        """A region, which is seldom turned over or empty, and sometimes flat."""
        lows = self.vector(size)
        least = -1 if self.chance(0.1) else 0
        highs = tuple((a + self.integer(least, 5) * b, b) for (a, b) in lows)
        return (lows, highs, self.system(size, self.integer(0, 2) if many is None else many))

    def claim(self, size):
        return tuple(self.system(size, self.integer(0, 3)) for _ in range(self.integer(0, 3)))

    def phases(self, count):
        return tuple(self.pick((True, False, None)) for _ in range(count))

    def deep(self, size, widths, outputs=1):
        """A plain network with so many units in each layer of bends."""
        layers = []
        taken = size
        for width in widths:
            layers.extend([("sums", self.matrix(width, taken), self.vector(width)), ("bends", (True,) * width)])
            taken = width
        layers.append(("sums", self.matrix(outputs, taken), self.vector(outputs)))
        return (size, tuple(layers))


    def loop(self, size, kinds=None, most=2):
        """A loop with a drawn network of these kinds of layers, and drifts that are narrow or none."""
        network = self.network(size, kinds)
        wide = len(outputs_by(network, vector(*[0] * size)))
        own = tuple(self.vector(size, most, 3) for _ in range(size))
        pull = tuple(self.vector(wide, most, 3) for _ in range(size))
        lows = self.vector(size, 1, 4)
        highs = tuple((a + self.integer(0, 1) * b, b) for (a, b) in lows)
        return (network, own, pull, lows, highs)

    def drift(self, loop):
        """A drift of a loop, often on an edge."""
        return tuple(ratio(fraction(low) + (fraction(high) - fraction(low)) * Fraction(self.integer(0, 2), 2))
                     for low, high in zip(loop[3], loop[4]))


def given_by(layer, taken):
    """How many numbers a layer gives that takes so many."""
    if layer[0] == "bends":
        return taken
    if layer[0] == "window":
        return len(range(0, taken - len(layer[2]) + 1, layer[1]))
    return len(layer[1])


def passed_by(layer, values):
    """What a layer gives, by Python's own fractions."""
    if layer[0] == "sums":
        return [sum((fraction(w) * x for w, x in zip(row, values)), fraction(offset))
                for row, offset in zip(layer[1], layer[2])]
    if layer[0] == "bends":
        return [max(x, Fraction(0)) if flag else x for flag, x in zip(layer[1], values)]
    if layer[0] == "greatest":
        return [max(values[index] for index in group) for group in layer[1]]
    _, step, weights, offset = layer
    found = []
    start = 0
    while start + len(weights) <= len(values):
        found.append(sum((fraction(w) * values[start + k] for k, w in enumerate(weights)),
                         fraction(offset)))
        start += step
    return found


def trail_by(network, point):
    """The point and what each layer gives, as lists of fractions."""
    found = [fractions(point)]
    for layer in network[1]:
        found.append(passed_by(layer, found[-1]))
    return found


def outputs_by(network, point):
    return tuple(ratio(value) for value in trail_by(network, point)[-1])


def bent_by(network, point):
    """The numbers that the units of a network bend at a point, in the order of the units."""
    found = []
    values = trail_by(network, point)
    for place, layer in enumerate(network[1]):
        if layer[0] == "bends":
            found.extend(x for flag, x in zip(layer[1], values[place]) if flag)
    return found


def unit_count(network):
    """How many units the flattened network has (point 206)."""
    many = 0
    for layer in network[1]:
        if layer[0] == "bends":
            many += sum(layer[1])
        if layer[0] == "greatest":
            many += sum(len(group) - 1 for group in layer[1])
    return many


def replaced(value, junk):
    """The value with just one place in it, at any depth, replaced by the junk; each in turn."""
    yield junk
    if isinstance(value, tuple):
        for index, item in enumerate(value):
            for other in replaced(item, junk):
                yield value[:index] + (other,) + value[index + 1:]


def mixed_up(network, draw):
    """A plain network that gives the same, with its units in another order and on other scales."""
    size, layers = network
    layers = list(layers)
    for at in range(1, len(layers), 2):
        (_, ahead, offsets), (_, flags), (_, later, last) = layers[at - 1:at + 2]
        order = list(range(len(flags)))
        draw.random.shuffle(order)
        scales = [Fraction(draw.integer(1, 4), draw.integer(1, 3)) for _ in order]

        def times(items, share):
            return tuple(ratio(Fraction(*item) * share) for item in items)

        layers[at - 1] = ("sums", tuple(times(ahead[k], scales[k]) for k in order),
                          tuple(times([offsets[k]], scales[k])[0] for k in order))
        layers[at] = ("bends", tuple(flags[k] for k in order))
        layers[at + 1] = ("sums", tuple(tuple(times([row[k]], 1 / scales[k])[0] for k in order) for row in later), last)
    return (size, tuple(layers))


def keeps_by(bounds, point):
    """Whether a point keeps all bounds, by Python's own fractions."""
    return all(sum(w * x for w, x in zip(fractions(line), fractions(point))) <= fraction(limit)
               for line, limit in bounds)


def lies_in(region, point):
    """Whether a point lies in a region, by Python's own fractions."""
    lows, highs, bounds = region
    boxed = all(low <= x <= high for low, x, high in zip(fractions(lows), fractions(point), fractions(highs)))
    return boxed and keeps_by(bounds, point)


def holds_by(claim, outputs):
    """Whether a claim holds for outputs, by Python's own fractions."""
    return all(any(keeps_by([row], outputs) for row in clause) for clause in claim)


def led_by(loop, state):
    """Where a loop leads a state without a drift, by Python's own fractions."""
    network, own, pull, _, _ = loop
    outputs = outputs_by(network, state)
    return [sum((w * x for w, x in zip(fractions(row), fractions(state))), Fraction(0))
            + sum((w * x for w, x in zip(fractions(more), fractions(outputs))), Fraction(0))
            for row, more in zip(own, pull)]


def stepped_by(loop, state, drift):
    """The state behind a state and a drift, by Python's own fractions."""
    return vector(*[x + d for x, d in zip(led_by(loop, state), fractions(drift))])


def follows(loop, state, later):
    """Whether a state may follow another one, by Python's own fractions."""
    lows, highs = fractions(loop[3]), fractions(loop[4])
    return all(low <= y - x <= high for low, high, x, y in zip(lows, highs, led_by(loop, state), fractions(later)))


def are_run(loop, states):
    """Whether states are a run, by Python's own fractions."""
    return len(states) > 0 and all(follows(loop, one, other) for one, other in zip(states, states[1:]))


def shortened(value):
    """The value with just one item at any depth taken away or doubled; each in turn."""
    if isinstance(value, tuple):
        for index, item in enumerate(value):
            yield value[:index] + value[index + 1:]
            yield value[:index] + (item, item) + value[index + 1:]
            for other in shortened(item):
                yield value[:index] + (other,) + value[index + 1:]
