"""The errors that the program raises (points 100 and 205, and the parts that name them)."""


class KinkError(ValueError):
    """The base of all errors of the program."""


class ByZero(KinkError):
    """A division by zero, or a below of 0."""


class BadRatio(KinkError):
    """A ratio without a text, or a word that is the text of no ratio."""


class BadPoint(KinkError):
    """A value that is no point with an item for each input."""


class BadJoin(KinkError):
    """Networks, or indexes, whose numbers do not fit together."""


class BadNetwork(KinkError):
    """A value that is no network: the layer, or -1, and the reason."""

    def __init__(self, layer, reason):
        super().__init__(f"layer {layer}: {reason}")
        self.layer = layer
        self.reason = reason


class BadSystem(KinkError):
    """A value that is no linear system over so many variables."""


class BadRegion(KinkError):
    """A value that is no region over so many inputs."""


class BadClaim(KinkError):
    """A value that is no clause or claim over so many outputs."""


class BadPaper(KinkError):
    """Multipliers that do not show what they should show."""


class BadVector(KinkError):
    """A value that is no vector with an item for each output."""


class BadScale(KinkError):
    """A grid, a scale, a width or a place that there is not."""


class BadText(KinkError):
    """A text whose row of this number, counted from 1, is wrong."""

    def __init__(self, row):
        super().__init__(f"row {row}")
        self.row = row


class BadJob(KinkError):
    """A job whose row of this number, counted from 1, is wrong."""

    def __init__(self, row):
        super().__init__(f"row {row}")
        self.row = row


class BadStep(KinkError):
    """Steps of which the one at this place is wrong."""

    def __init__(self, place):
        super().__init__(f"step {place}")
        self.place = place


class BadCode(KinkError):
    """Code of which the instruction at this place, or -1, is wrong."""

    def __init__(self, place):
        super().__init__(f"instruction {place}")
        self.place = place


class BadLoop(KinkError):
    """A value that is no loop, and the reason."""

    def __init__(self, reason):
        super().__init__(f"loop: {reason}")
        self.reason = reason


class BadCount(KinkError):
    """A count or a number of turns that is no integer from its least value on."""


class BadMeasure(KinkError):
    """A vector and a fall that are no measure."""
