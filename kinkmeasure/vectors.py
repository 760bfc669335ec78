"""Vectors and matrices of ratios (point 105)."""

from math import gcd, lcm

from kinkmeasure.ratios import ONE, ZERO, add, at_most, is_ratio, make, multiply, negative, subtract


def is_vector(value, *, size=None):
    """Tell whether a value is a vector, with so many items if a size is given."""
    if not isinstance(value, tuple):
        return False
    if size is not None and len(value) != size:
        return False
    return all(is_ratio(item) for item in value)


def is_matrix(value, *, rows=None, columns=None):
    """Tell whether a value is a matrix, with so many rows and columns if they are given."""
    if not isinstance(value, tuple) or value == ():
        return False
    if rows is not None and len(value) != rows:
        return False
    if not isinstance(value[0], tuple):
        return False
    width = len(value[0])
    if columns is not None and width != columns:
        return False
    return all(is_vector(row, size=width) for row in value)


def zero(size):
    """Return the vector of so many zeros."""
    return (ZERO,) * size


def unit(size, index):
    """Return the vector with one at the index and zero elsewhere."""
    return zero(index) + (ONE,) + zero(size - index - 1)


def identity(size):
    """Return the matrix whose rows are the units in order."""
    return tuple([unit(size, index) for index in range(size)])


def dot(one, other):
    """Return the sum of the products of the items of two vectors of equal size."""
    above = 0
    below = 1
    for (first, under), (second, beneath) in zip(one, other):
        part = first * second
        # Most items of many rows are zero, and those cost no common below.
        if part != 0:
            piece = under * beneath
            shared = gcd(below, piece)
            above = above * (piece // shared) + part * (below // shared)
            below = below // shared * piece
    return make(above, below)


def added(one, other):
    """Return the sum of two vectors of equal size."""
    return tuple([add(first, second) for first, second in zip(one, other)])


def subtracted(one, other):
    """Return the first vector minus the other one."""
    return tuple([subtract(first, second) for first, second in zip(one, other)])


def scaled(factor, vector):
    """Return the vector with each item times the ratio."""
    return tuple([multiply(factor, item) for item in vector])


def opposite(vector):
    """Return the vector with the other sign for each item."""
    return tuple([negative(item) for item in vector])


def applied(matrix, vector):
    """Return the dot products of the rows with the vector."""
    return tuple([dot(row, vector) for row in matrix])


def filled(vector):
    """Return the pairs of an index and an integer for the items that are not zero, and their below."""
    integers, below = cleared(vector)
    return [(index, item) for index, item in enumerate(integers) if item != 0], below


def mixed(vector, parts, width):
    """Return the sum of rows, each scaled by its item; `parts` has what `filled` gives for each."""
    below = 1
    for (above, under), (_, piece) in zip(vector, parts):
        if above != 0:
            below = lcm(below, under * piece)
    sums = [0] * width
    for (above, under), (pairs, piece) in zip(vector, parts):
        if above != 0:
            share = above * (below // (under * piece))
            for index, item in pairs:
                sums[index] += share * item
    return tuple([ZERO if item == 0 else make(item, below) for item in sums])


def combined(vector, matrix):
    """Return the sum of the rows of the matrix, each scaled by its item of the vector."""
    parts = [([], 1) if item == ZERO else filled(row) for item, row in zip(vector, matrix)]
    return mixed(vector, parts, len(matrix[0]))


def multiplied(one, other):
    """Return the product of two matrices: the other one is applied first."""
    # Matrices that take windows or single items apart are nearly all zeros.
    parts = [filled(row) for row in other]
    width = len(other[0])
    return tuple([mixed(row, parts, width) for row in one])


def column(matrix, index):
    """Return the column of a matrix as a vector."""
    return tuple([row[index] for row in matrix])


def transposed(matrix):
    """Return the matrix whose rows are the columns, of which there is at least one."""
    return tuple([column(matrix, index) for index in range(len(matrix[0]))])


def cleared(vector):
    """Return the integers that the items times the least common below are, and that below."""
    below = 1
    for (_, piece) in vector:
        below = lcm(below, piece)
    return (tuple([above * (below // piece) for (above, piece) in vector]), below)


def is_below(one, other):
    """Tell whether no item of the first vector is greater than that of the other one."""
    return all([at_most(first, second) for first, second in zip(one, other)])
