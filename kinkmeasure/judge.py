"""The judge of case papers, which does not search (points 500 to 502)."""

from kinkmeasure.claims import check_claim, check_clause
from kinkmeasure.flatten import flatten
from kinkmeasure.leaves import Ground, are_right, goals_with
from kinkmeasure.networks import out_size
from kinkmeasure.ratios import is_integer
from kinkmeasure.regions import check_region


def with_phase(phases, index, phase):
    """Return the phases with another one for a unit."""
    return phases[:index] + (phase,) + phases[index + 1 :]


def is_form(paper, word, parts):
    """Tell whether a value is a tuple of the word and so many parts."""
    return isinstance(paper, tuple) and len(paper) == 1 + parts and paper[0] == word


def is_case(paper, phases):
    """Tell whether a value is a case for a unit that the phases leave open, whatever its papers are."""
    if not is_form(paper, "unit", 3) or not is_integer(paper[1]):
        return False
    return 0 <= paper[1] < len(phases) and phases[paper[1]] is None


def takes_leaf(ground, phases, goals, paper):
    """Tell whether a value is a leaf that is right for the phases and the goals."""
    if not is_form(paper, "leaf", 2):
        return False
    rows = ground.leaf_rows(phases)
    return are_right(ground.size + ground.count, rows, goals, paper[1], paper[2])


def takes(ground, clause, paper):
    """Tell whether a value is a right case paper for a clause."""
    goals = goals_with(ground.out_forms, clause)
    waiting = [((None,) * ground.count, paper)]
    # A list of what is still to be judged spares a call for each level of the paper.
    while waiting != []:
        phases, part = waiting.pop()
        if is_case(part, phases):
            waiting.append((with_phase(phases, part[1], False), part[3]))
            waiting.append((with_phase(phases, part[1], True), part[2]))
        elif not takes_leaf(ground, phases, goals, part):
            return False
    return True


def judge_case(network, region, clause, paper):
    """Tell whether a value is a right case paper for a clause."""
    plain = flatten(network)
    check_region(network[0], region)
    check_clause(out_size(plain), clause)
    return takes(Ground(plain, region), clause, paper)


def judge(network, region, claim, papers):
    """Tell whether a value is papers for a claim, a right one for each clause."""
    plain = flatten(network)
    check_region(network[0], region)
    check_claim(out_size(plain), claim)
    if not isinstance(papers, tuple) or len(papers) != len(claim):
        return False
    ground = Ground(plain, region)
    for clause, paper in zip(claim, papers):
        if not takes(ground, clause, paper):
            return False
    return True
