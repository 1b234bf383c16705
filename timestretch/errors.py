"""The refusals, each of its own class, all straight under StretchError."""


class StretchError(ValueError):
    """Any refusal."""


class BadName(StretchError):
    """A name that is not 1 to 12 small letters a to z."""


class BadLetter(StretchError):
    """A letter with a number out of bounds or two numbers out of order."""


class BadOff(StretchError):
    """An off that is not from 0 to 999."""


class TooEarly(StretchError):
    """A count before the one that it is told from."""


class BadCount(StretchError):
    """A number of wrong clocks that cannot be."""


class NoAgreement(StretchError):
    """No time is borne by enough clocks."""


class TooWide(StretchError):
    """A stretch that is wider already than it may become."""


class TooMany(StretchError):
    """A letter or a name more than a watch holds."""


class NoClock(StretchError):
    """A name of which a watch holds no letter."""


class NoText(StretchError):
    """A text that writes no letters."""
