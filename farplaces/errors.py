"""The refusals of the program."""


class FarError(ValueError):
    """Any refusal."""


class NoJoin(FarError):
    """What should be joined, taken out or changed cannot be so; made of a text."""


class NoAsk(FarError):
    """A line that asks nothing of the desk; made of a text."""


class NoTree(FarError):
    """A text that is no tree; it keeps the first wrong row, counted from 0."""

    def __init__(self, row):
        FarError.__init__(self, f"row {row} is wrong")
        self.row = row


class NoPlace(FarError):
    """A name that is no place of the tree; it keeps the name."""

    def __init__(self, name):
        FarError.__init__(self, f"{name} is no place")
        self.name = name
