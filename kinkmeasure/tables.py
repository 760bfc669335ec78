"""The table of a linear system, with which the simplex method works in integers.

Each bound has a slack: its limit minus the dot product, times the least integer that clears it of
fractions. Each row of the table tells one variable by those of the columns: its below times the
variable is the sum of the items times the variables of their columns, plus the last item. The
variables of the columns are 0 at the place where the table stands. The variables of the system
have the labels from 0 on, then come those of the slacks.
"""

from math import gcd

from kinkmeasure.ratios import ONE, ZERO, make, negative, of
from kinkmeasure.vectors import cleared

# The label of the form whose greatest value is asked for.
AIM = -1

# So many exchanges in a row may leave the place as it is, until the careful choice begins.
PATIENCE = 10

# A row whose below has at most so many bits is not worth the search for a common factor.
SHORT = 200


def reduced(row, below):
    """Return a row and its below, without the factor that all of them share if they are long."""
    if below.bit_length() <= SHORT:
        return row, below
    shared = below
    for item in row:
        if shared == 1:
            return row, below
        shared = gcd(shared, item)
    if shared == 1:
        return row, below
    return [item // shared for item in row], below // shared


def turned(row, below, column):
    """Return the row, and its below, that tells the variable of the column instead."""
    pivot = row[column]
    if pivot > 0:
        found = [-item for item in row]
        found[column] = below
        return found, pivot
    found = list(row)
    found[column] = -below
    return found, -pivot


def put_in(row, below, column, known, piece):
    """Return a row and its below with the known row, over the piece, in place of the column."""
    share = row[column]
    shared = gcd(share, piece)
    factor = piece // shared
    share = share // shared
    found = [item * factor + share * other for item, other in zip(row, known)]
    found[column] = share * known[column]
    return reduced(found, below * factor)


class Table:
    """The rows of a system at a place where as many slacks as possible are 0."""

    def __init__(self, size, bounds):
        self.size = size
        self.scales = []
        self.rows = []
        self.belows = []
        self.inner = []
        self.outer = list(range(size))
        for vector, limit in bounds:
            whole, scale = cleared(vector + (limit,))
            self.inner.append(size + len(self.scales))
            self.scales.append(scale)
            self.rows.append([-item for item in whole[:-1]] + [whole[-1]])
            self.belows.append(1)

    def take_aim(self, vector):
        """Append the row of the form with this vector."""
        whole, below = cleared(vector)
        self.inner.append(AIM)
        self.rows.append(list(whole) + [0])
        self.belows.append(below)

    def exchange(self, place, column):
        """Let the variables of a row and of a column change places."""
        known, piece = turned(self.rows[place], self.belows[place], column)
        for other in range(len(self.rows)):
            if other != place and self.rows[other][column] != 0:
                row, below = put_in(self.rows[other], self.belows[other], column, known, piece)
                self.rows[other] = row
                self.belows[other] = below
        self.rows[place] = known
        self.belows[place] = piece
        label = self.inner[place]
        self.inner[place] = self.outer[column]
        self.outer[column] = label

    def is_slack(self, label):
        """Tell whether a label is that of a slack."""
        return label >= self.size

    def settle_at(self, places):
        """Bring variables of the system into these rows, as far as the slacks of the rows depend on them."""
        for place in places:
            column = self.free_column(place)
            if column is not None and self.is_slack(self.inner[place]):
                self.exchange(place, column)

    def settle(self):
        """Bring the variables of the system into rows, as far as slacks depend on them."""
        for column in range(self.size):
            if self.is_slack(self.outer[column]):
                continue
            for place in range(len(self.rows)):
                if self.is_slack(self.inner[place]) and self.rows[place][column] != 0:
                    self.exchange(place, column)
                    break

    def growing(self, place, careful):
        """Return a column whose slack makes the variable of a row grow, or None."""
        row = self.rows[place]
        found = None
        for column in range(self.size):
            if row[column] > 0:
                if found is None:
                    found = column
                elif careful and self.outer[column] < self.outer[found]:
                    found = column
                elif not careful and row[column] > row[found]:
                    found = column
        return found

    def blocking(self, column):
        """Return the row whose slack is the first one to become 0 if the column grows, or None.

        Slacks that are below 0 do not count. Of several rows it is the one with the least label.
        """
        found = None
        for place in range(len(self.rows)):
            row = self.rows[place]
            if row[column] < 0 and row[-1] >= 0 and self.is_slack(self.inner[place]):
                if found is None:
                    found = place
                    continue
                # Both items of the column are below 0, so this compares how far the column can grow.
                lead = row[-1] * self.rows[found][column] - self.rows[found][-1] * row[column]
                if lead > 0 or (lead == 0 and self.inner[place] < self.inner[found]):
                    found = place
        return found

    def lacking(self):
        """Return a row whose slack is below 0, or None."""
        for place in range(len(self.rows)):
            if self.rows[place][-1] < 0 and self.is_slack(self.inner[place]):
                return place
        return None

    def comes_first(self, target, column, place):
        """Tell whether the target's slack reaches 0 from below no later than the row blocks."""
        if place is None:
            return True
        mine = self.rows[target]
        other = self.rows[place]
        return mine[-1] * other[column] <= other[-1] * mine[column]

    def lift(self, target):
        """Raise a slack that is below 0 up to 0; tell whether this is possible."""
        still = 0
        while True:
            column = self.growing(target, still > PATIENCE)
            if column is None:
                return False
            place = self.blocking(column)
            if self.comes_first(target, column, place):
                self.exchange(target, column)
                return True
            # The greatest item is quick but may go in a circle; the least labels never do.
            still = still + 1 if self.rows[place][-1] == 0 else 0
            self.exchange(place, column)

    def find_place(self):
        """Go to a place where no slack is below 0; return None, or a row that shows there is none."""
        self.settle()
        while True:
            target = self.lacking()
            if target is None or not self.lift(target):
                return target

    def free_column(self, target):
        """Return a column on which no slack depends, but the target row does, or None."""
        for column in range(self.size):
            if self.rows[target][column] != 0 and not self.is_slack(self.outer[column]):
                return column
        return None

    def climb(self, target):
        """Raise the variable of a row as far as it goes; return None, or a column without end."""
        free = self.free_column(target)
        if free is not None:
            return free
        still = 0
        while True:
            column = self.growing(target, still > PATIENCE)
            if column is None:
                return None
            place = self.blocking(column)
            if place is None:
                return column
            still = still + 1 if self.rows[place][-1] == 0 else 0
            self.exchange(place, column)

    def solution(self, column):
        """Return the items of a column, or of the last one, for the variables of the system."""
        found = [ZERO] * self.size
        for place in range(len(self.rows)):
            label = self.inner[place]
            if 0 <= label < self.size:
                found[label] = make(self.rows[place][column], self.belows[place])
        return found

    def point(self):
        """Return the point where the table stands."""
        return tuple(self.solution(-1))

    def direction(self, column, target):
        """Return the vector that goes with a column, turned so that the target row grows."""
        found = self.solution(column)
        label = self.outer[column]
        if not self.is_slack(label):
            found[label] = ONE
        if self.rows[target][column] < 0:
            found = [negative(item) for item in found]
        return tuple(found)

    def multipliers(self, place):
        """Return the multipliers of the bounds for which a row stands that no column makes grow."""
        found = [ZERO] * len(self.scales)
        label = self.inner[place]
        if self.is_slack(label):
            found[label - self.size] = of(self.scales[label - self.size])
        for column in range(self.size):
            label = self.outer[column]
            if self.is_slack(label):
                scale = self.scales[label - self.size]
                found[label - self.size] = make(-self.rows[place][column] * scale, self.belows[place])
        return tuple(found)
