"""Texts of case papers (points 1000 and 1001)."""

from kinkmeasure.errors import BadRatio, BadText
from kinkmeasure.judge import is_form
from kinkmeasure.ratios import is_integer, ratio_in, text
from kinkmeasure.texts import count_in


def leaf_row(paper):
    """Return the row of a leaf."""
    if not isinstance(paper[1], tuple) or not isinstance(paper[2], tuple):
        raise BadRatio()
    words = ["leaf"] + [text(ratio) for ratio in paper[1]] + [":"] + [text(ratio) for ratio in paper[2]]
    return " ".join(words)


def rows_of(paper):
    """Return the rows of a case paper; raise BadRatio if one of its ratios has no text."""
    rows = []
    waiting = [paper]
    # A list of what is still to be written spares a call for each level of the paper.
    while waiting != []:
        part = waiting.pop()
        if is_form(part, "unit", 3) and is_integer(part[1]):
            rows.append(f"unit {part[1]}")
            waiting.append(part[3])
            waiting.append(part[2])
        elif is_form(part, "leaf", 2):
            rows.append(leaf_row(part))
        else:
            raise BadRatio()
    return rows


def text_of(paper):
    """Return the text of a case paper; raise BadRatio if one of its ratios has no text."""
    return "\n".join(rows_of(paper)) + "\n"


def ratios_in(words):
    """Return the ratios that words write, or None if they do not."""
    ratios = [ratio_in(word) for word in words]
    return None if None in ratios else tuple(ratios)


def leaf_in(words):
    """Return the leaf that the words of a row write, or None if they do not."""
    if words[0] != "leaf" or ":" not in words:
        return None
    middle = words.index(":")
    multipliers = ratios_in(words[1:middle])
    shares = ratios_in(words[middle + 1 :])
    if multipliers is None or shares is None:
        return None
    return ("leaf", multipliers, shares)


def parts_in(rows):
    """Return the leaf, or the number of the unit, for each row; raise BadText for the first wrong row."""
    found = []
    due = 1
    for place, row in enumerate(rows):
        words = row.split(" ")
        leaf = leaf_in(words)
        index = count_in(words, "unit")
        if due == 0 or (leaf is None and index is None):
            raise BadText(place + 1)
        due = due - 1 if index is None else due + 1
        found.append(leaf if index is None else index)
    if due > 0:
        raise BadText(len(rows) + 1)
    return found


def parse(written):
    """Return the case paper of a text; raise BadText for the first wrong row."""
    if not isinstance(written, str):
        raise BadText(1)
    *rows, last = written.split("\n")
    parts = parts_in(rows)
    # What stands behind the last newline is an unfinished row.
    if last != "":
        raise BadText(len(rows) + 1)
    # From the last row on, the papers of a case are complete when its row comes.
    papers = []
    for part in reversed(parts):
        if isinstance(part, tuple):
            papers.append(part)
        else:
            positive = papers.pop()
            papers.append(("unit", part, positive, papers.pop()))
    return papers[0]
