"""The errors of the program: one class for each kind of failure."""


class DotfieldError(ValueError):
    """The base class of all errors; the meaning of the place depends on the class."""

    def __init__(self, place):
        self.place = place
        self.name = self.__class__.__name__


class Truncated(DotfieldError):
    """The bits end before a field does."""


class InvalidMode(DotfieldError):
    """No segment has such a mode."""


class InvalidCount(DotfieldError):
    """A count, or a number in a segment or a header, is out of its bounds."""


class TooLong(DotfieldError):
    """No allowed version has room for the text."""


class NotASymbol(DotfieldError):
    """The grid is not one of a symbol."""


class InvalidVersion(DotfieldError):
    """The version words do not agree with the version."""


class InvalidFormat(DotfieldError):
    """No format word is near enough."""


class TooDamaged(DotfieldError):
    """No codeword is near enough."""


class AmbiguousTurn(DotfieldError):
    """Two turns of the grid are equally likely."""


class NotAPicture(DotfieldError):
    """The picture does not show a symbol."""


class InvalidSequence(DotfieldError):
    """The parts are not those of one message."""
