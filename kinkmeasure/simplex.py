"""Points, greatest values and multipliers of linear systems (points 303 and 304)."""

from kinkmeasure.errors import BadSystem
from kinkmeasure.systems import check_system
from kinkmeasure.tables import Table
from kinkmeasure.vectors import is_vector


def solved(size, rows, hints):
    """Do what `solve` does for rows that surely are a system, from where those at the hints meet on."""
    table = Table(size, rows)
    table.settle_at(hints)
    lacking = table.find_place()
    if lacking is not None:
        return ("none", table.multipliers(lacking))
    return ("point", table.point())


def topped(size, rows, vector, hints):
    """Do what `greatest` does for rows and a vector that surely fit, from where those at the hints meet on."""
    table = Table(size, rows)
    table.take_aim(vector)
    table.settle_at(hints)
    lacking = table.find_place()
    if lacking is not None:
        return ("none", table.multipliers(lacking))
    column = table.climb(len(rows))
    if column is not None:
        return ("endless", table.point(), table.direction(column, len(rows)))
    return ("greatest", table.point(), table.multipliers(len(rows)))


def solve(size, rows):
    """Return a point that keeps all bounds, or multipliers that show that there is none."""
    check_system(size, rows)
    return solved(size, rows, ())


def greatest(size, rows, vector):
    """Return where a form is greatest, or why it is nowhere (point 304)."""
    check_system(size, rows)
    if not is_vector(vector, size=size):
        raise BadSystem()
    return topped(size, rows, vector, ())
