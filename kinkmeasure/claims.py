"""Claims about outputs: clauses of bounds of which one must hold (point 401)."""

from kinkmeasure.errors import BadClaim
from kinkmeasure.ratios import ZERO, negative
from kinkmeasure.regions import keeps
from kinkmeasure.systems import is_bound
from kinkmeasure.vectors import opposite, subtracted, unit


def is_clause(size, value):
    """Tell whether a value is a clause over so many outputs."""
    return isinstance(value, tuple) and all(is_bound(bound, size=size) for bound in value)


def check_clause(size, clause):
    """Raise BadClaim for a value that is no clause over so many outputs."""
    if not is_clause(size, clause):
        raise BadClaim()


def check_claim(size, claim):
    """Raise BadClaim for a value that is no claim over so many outputs."""
    if not isinstance(claim, tuple) or not all(is_clause(size, clause) for clause in claim):
        raise BadClaim()


def clause_holds(clause, outputs):
    """Tell whether the outputs keep at least one bound of a clause."""
    return any(keeps(bound, outputs) for bound in clause)


def claim_holds(claim, outputs):
    """Tell whether all clauses of a claim hold."""
    return all(clause_holds(clause, outputs) for clause in claim)


def first_place(size, index):
    """Return the claim that no output is greater than the one with the index."""
    mine = unit(size, index)
    others = [other for other in range(size) if other != index]
    return tuple([((subtracted(unit(size, other), mine), ZERO),) for other in others])


def within(lows, highs):
    """Return the claim that each output is at most its high, and at least its low."""
    size = len(lows)
    claim = []
    for index in range(size):
        line = unit(size, index)
        claim.append(((line, highs[index]),))
        claim.append(((opposite(line), negative(lows[index])),))
    return tuple(claim)
