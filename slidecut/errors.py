"""The refusals: one base, and each other one straight under it."""


class CutError(ValueError):
    """Any refusal."""


class NoRatio(CutError):
    """A ratio whose bottom is 0, or one over 0."""


class NoPoint(CutError):
    """A point whose third number is 0, or two lines that do not meet in just one point."""


class NoCloth(CutError):
    """Rings that are no cloth."""


class NoPlan(CutError):
    """Two cloths of which no plan can be told; why is what forbids it."""

    def __init__(self, why):
        self.why = why


class NoText(CutError):
    """A text that is not written as a point or a cloth is."""


class NoRow(CutError):
    """A row that has none of the forms that a clerk takes."""


class NoName(CutError):
    """A name by which no cloth is kept; name is this name."""

    def __init__(self, name):
        self.name = name


class NoMove(CutError):
    """No plan stands, or it has no move of this number."""
