"""The errors of the package."""


class NoPlace(LookupError):
    """A pair that is no PLACE of the WEB."""

    def __init__(self, place):
        self.place = place


class NoTie(LookupError):
    """A pair that is no TIE of the WEB."""

    def __init__(self, tie):
        self.tie = tie


class NothingDone(LookupError):
    """There is nothing to take back, or to do once more."""


class BadText(ValueError):
    """A text whose line of this number has a fault."""

    def __init__(self, line):
        self.line = line


class Broken(ValueError):
    """A PLAN that can not be gone on with from this place of it."""

    def __init__(self, place):
        self.place = place


class CanNot(ValueError):
    """What is asked for is not to be had."""


class TooMany(ValueError):
    """There is more of it than is told."""


class Unfit(ValueError):
    """An argument is not what it has to be."""
