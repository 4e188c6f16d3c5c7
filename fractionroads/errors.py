"""The refusals: one class for each kind, all straight under RoadError."""


class RoadError(ValueError):
    """Any refusal."""


class NoPlace(RoadError):
    """Two noughts make no place."""


class NoLevel(RoadError):
    """No whole number from 1 to 48."""


class NoSymbol(RoadError):
    """A pair that tells no symbol of the level."""


class NoEnd(RoadError):
    """No end of the level."""


class Apart(RoadError):
    """Two places that are not at one end."""


class NoRow(RoadError):
    """No row of the room."""


class NotClosed(RoadError):
    """A row whose border has other numbers than noughts."""


class NoDeed(RoadError):
    """No number of a deed."""


class NoPart(RoadError):
    """No exact part, no divisor, or a common divisor where none may be."""


class NoForm(RoadError):
    """No size of small forms."""


class NoText(RoadError):
    """No text, or one that is not written as it has to be."""


class NoName(RoadError):
    """A name that stands for nothing."""
