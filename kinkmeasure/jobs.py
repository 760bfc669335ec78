"""Jobs: texts of a network, a region and questions (points 1002 and 1003)."""

from kinkmeasure.claims import first_place
from kinkmeasure.errors import BadJob, BadRatio
from kinkmeasure.flatten import flatten
from kinkmeasure.greatest import greatest
from kinkmeasure.networks import out_size, run
from kinkmeasure.papertexts import ratios_in, rows_of
from kinkmeasure.ratios import text
from kinkmeasure.regions import contains
from kinkmeasure.search import decide
from kinkmeasure.texts import count_in, parse, weights_in

# The first words of the rows that stand behind the network.
WORDS = ("low", "high", "bound", "run", "claim", "paper", "first", "most")


def vector_in(words, size):
    """Return the vector of this size that words write, or None if they do not."""
    return ratios_in(words) if len(words) == size else None


def bound_in(words, size):
    """Return the bound over so many numbers that words write, or None if they do not."""
    parts = weights_in(words)
    return parts if parts is not None and len(parts[0]) == size else None


def clause_in(words, size):
    """Return the clause over so many outputs that words write, or None if they do not."""
    if words == ["never"]:
        return ()
    pieces = [[]]
    for word in words:
        if word == "or":
            pieces.append([])
        else:
            pieces[-1].append(word)
    bounds = [bound_in(piece, size) for piece in pieces]
    return None if None in bounds else tuple(bounds)


def joined(words, ratios):
    """Return the row of the words and the texts of ratios."""
    return " ".join(words + [text(ratio) for ratio in ratios])


class Job:
    """The region so far and the answers so far, for a network."""

    def __init__(self, network):
        self.network = network
        self.inputs = network[0]
        self.outputs = out_size(network)
        self.ends = {}
        self.bounds = []
        self.asked = False
        self.answers = []

    def take(self, words):
        """Take the words of a row; tell whether they are right."""
        if words[0] in ("low", "high"):
            return self.take_end(words[0], vector_in(words[1:], self.inputs))
        if words[0] == "bound":
            return self.take_bound(bound_in(words[1:], self.inputs))
        if words[0] not in WORDS or len(self.ends) < 2:
            return False
        self.asked = True
        found = self.answer(words)
        if found is None:
            return False
        self.answers.extend(found)
        return True

    def take_end(self, word, vector):
        """Take the lows or the highs; tell whether there are any and they are the first ones."""
        if vector is None or word in self.ends:
            return False
        self.ends[word] = vector
        return True

    def take_bound(self, bound):
        """Take a further bound; tell whether there is one and no question is ahead of it."""
        if bound is None or self.asked:
            return False
        self.bounds.append(bound)
        return True

    def whole_region(self):
        """Return the region of the job."""
        return (self.ends["low"], self.ends["high"], tuple(self.bounds))

    def answer(self, words):
        """Return the rows of the answer to a question, or None if its words are wrong."""
        if words[0] == "run":
            point = vector_in(words[1:], self.inputs)
            return None if point is None else self.told_run(point)
        if words[0] == "most":
            vector = vector_in(words[1:], self.outputs)
            return None if vector is None else self.told_most(vector)
        if words[0] == "first":
            index = count_in(words, "first")
            if index is None or index >= self.outputs:
                return None
            return self.told_claim(first_place(self.outputs, index), False)
        clause = clause_in(words[1:], self.outputs)
        return None if clause is None else self.told_claim((clause,), words[0] == "paper")

    def told_run(self, point):
        """Return the row that says whether a point lies in the region, and the outputs."""
        word = "inside" if contains(self.whole_region(), point) else "outside"
        return [joined([word], run(self.network, point))]

    def told_claim(self, claim, shown):
        """Return the row that says whether a claim holds, with the rows of the paper if it is to be shown."""
        word, found = decide(self.network, self.whole_region(), claim)
        if word == "breaks":
            return [joined(["breaks"], found)]
        return ["holds"] + (rows_of(found[0]) if shown else [])

    def told_most(self, vector):
        """Return the row with the greatest value of a form, and where it is reached."""
        found = greatest(flatten(self.network), self.whole_region(), vector)
        if found[0] == "empty":
            return ["empty"]
        return [joined(["most"], (found[1],) + found[2])]


def is_taken(job, row):
    """Tell whether a job takes a row, and its answer has a text."""
    try:
        return job.take(row.split(" "))
    except BadRatio:
        return False


def run_job(written):
    """Return the rows of the answers of a job; raise BadText, BadNetwork or BadJob for the first wrong row."""
    rows = written.split("\n") if isinstance(written, str) else []
    heads = [place for place, row in enumerate(rows) if row.split(" ")[0] in WORDS]
    if heads == []:
        parse(written)
        return []
    job = Job(parse("".join([row + "\n" for row in rows[: heads[0]]])))
    for place in range(heads[0], len(rows) - 1):
        if not is_taken(job, rows[place]):
            raise BadJob(place + 1)
    # What stands behind the last newline is an unfinished row.
    if rows[-1] != "":
        raise BadJob(len(rows))
    return job.answers
