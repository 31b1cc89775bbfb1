"""The refusals: one class for each, all under LoreError."""


class LoreError(ValueError):
    """Any refusal."""


class NoSign(LoreError):
    """A text that can't be cut."""

    def __init__(self, at):
        LoreError.__init__(self, f"no known piece stands at place {at}")
        self.at = at


class Round(LoreError):
    """Pieces that would have to stand ahead of themselves."""

    def __init__(self, pieces):
        LoreError.__init__(self, f"these stand ahead of one another in a round: {pieces!r}")
        # A copy, so that the field is the asker's own.
        self.pieces = list(pieces)


class NoRule(LoreError):
    """A line that is no rule."""

    def __init__(self, at):
        LoreError.__init__(self, f"line {at} is no rule")
        self.at = at


class Clash(LoreError):
    """A piece with jobs that don't go together."""

    def __init__(self, piece):
        LoreError.__init__(self, f"{piece!r} can't have this job")
        self.piece = piece


class NoLetter(LoreError):
    """A piece that would have to be a letter, or a mark, and is not."""

    def __init__(self, piece):
        LoreError.__init__(self, f"{piece!r} is no letter")
        self.piece = piece


class Twice(LoreError):
    """A name or a text that is there already."""

    def __init__(self, name):
        LoreError.__init__(self, f"{name!r} is there already")
        self.name = name


class NoText(LoreError):
    """A text that is not there."""


class NotPlain(LoreError):
    """A sign by which two orders can't be laid beside one another."""

    def __init__(self, piece):
        LoreError.__init__(self, f"{piece!r} is not plain in both orders")
        self.piece = piece


class NoName(LoreError):
    """A name that is none, or by which there is nothing."""

    def __init__(self, name):
        LoreError.__init__(self, f"there is nothing by the name {name!r}")
        self.name = name


class Ring(LoreError):
    """Orders that would be their own elders."""

    def __init__(self, around):
        LoreError.__init__(self, f"these are elders of one another in a ring: {around!r}")
        # A copy, so that the field is the asker's own.
        self.around = list(around)


class NoDeed(LoreError):
    """A row that the desk doesn't know."""
