"""What all runs of a loop do: where they land, what they leave, and warrants (points 905 to 908)."""

from kinkmeasure.judge import judge
from kinkmeasure.loops import check_counted, check_regions, drifting, has_room, is_count, rolled, run_in
from kinkmeasure.regions import is_region, rows_of
from kinkmeasure.search import decide


def region_claim(region):
    """Return the claim that the outputs lie in a region."""
    return tuple([(bound,) for bound in rows_of(region)])


def landing(loop, region, count, target):
    """Return the answer of `lands` for what surely fits."""
    answer = decide(rolled(loop, count), drifting(loop, region, count), region_claim(target))
    if answer[0] == "breaks":
        return ("misses", run_in(loop, answer[1]))
    return ("lands", answer[1])


def lands(loop, region, count, target):
    """Return papers that every run of so many steps ends in the target, or one that does not."""
    check_counted(loop, (region, target), count, 0)
    return landing(loop, region, count, target)


def kept(loop, region):
    """Return papers that every step from a region ends in it, or one that does not."""
    check_counted(loop, (region,), 1, 0)
    word, found = landing(loop, region, 1, region)
    return ("kept" if word == "lands" else "left", found)


def staying(loop, start, safe, count):
    """Return the answer of `stays` for what surely fits."""
    papers = []
    for steps in range(count + 1):
        word, found = landing(loop, start, steps, safe)
        if word == "misses":
            return ("leaves", found)
        papers.append(found)
    return ("stays", tuple(papers))


def stays(loop, start, safe, count):
    """Return papers that no run of up to so many steps leaves the safe region, or a shortest one that does."""
    check_counted(loop, (start, safe), count, 0)
    return staying(loop, start, safe, count)


def warranted(loop, start, safe, held, count):
    """Return the answer of `warrant` for what surely fits."""
    word, begun = landing(loop, start, 0, held)
    if word == "misses":
        return ("outside", begun)
    word, between = staying(loop, held, safe, count - 1)
    if word == "leaves":
        return ("leaves", between)
    word, back = landing(loop, held, count, held)
    if word == "misses":
        return ("strays", back)
    return ("safe", (held, count, begun, between, back))


def warrant(loop, start, safe, held, count):
    """Return a warrant that a loop is safe for ever, or the first reason why there is none."""
    check_counted(loop, (start, safe, held), count, 1)
    return warranted(loop, start, safe, held, count)


def landing_shown(loop, region, count, target, papers):
    """Tell whether papers show that runs land in the target, for a loop, regions and a count that fit."""
    return judge(rolled(loop, count), drifting(loop, region, count), region_claim(target), papers)


def judge_lands(loop, region, count, target, papers):
    """Tell whether a value is papers that every run of so many steps ends in the target."""
    check_counted(loop, (region, target), count, 0)
    return landing_shown(loop, region, count, target, papers)


def judge_kept(loop, region, papers):
    """Tell whether a value is papers that every step from a region ends in it."""
    check_counted(loop, (region,), 1, 0)
    return landing_shown(loop, region, 1, region, papers)


def staying_shown(loop, start, safe, count, papers):
    """Tell whether papers show that runs stay safe, for a loop, regions and a count that fit."""
    if not isinstance(papers, tuple) or len(papers) != count + 1:
        return False
    for steps, part in enumerate(papers):
        if not landing_shown(loop, start, steps, safe, part):
            return False
    return True


def judge_stays(loop, start, safe, count, papers):
    """Tell whether a value is papers that no run of up to so many steps leaves the safe region."""
    check_counted(loop, (start, safe), count, 0)
    return staying_shown(loop, start, safe, count, papers)


def judge_warrant(loop, start, safe, shown):
    """Tell whether a value is a warrant that the loop is safe for ever."""
    check_regions(loop, (start, safe))
    if not isinstance(shown, tuple) or len(shown) != 5:
        return False
    held, count, begun, between, back = shown
    if not is_region(loop[0][0], held) or not is_count(count, 1) or not has_room(loop, count):
        return False
    if not landing_shown(loop, start, 0, held, begun):
        return False
    if not staying_shown(loop, held, safe, count - 1, between):
        return False
    return landing_shown(loop, held, count, held, back)
