"""What the program refuses, one class for each refusal."""


class TouchError(ValueError):
    """Any refusal."""


class NoBox(TouchError):
    """A name that no box has."""


class Taken(TouchError):
    """A name that a box has already."""


class TooMany(TouchError):
    """One box more than a scene can have."""


class NoNumber(TouchError):
    """A number, or a step, that is not there."""


class NoText(TouchError):
    """A text that is not the writing of a scene."""
