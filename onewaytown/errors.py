"""The refusals of the program."""


class TownError(ValueError):
    """Any refusal."""


class BadCount(TownError):
    """A town can't have so many places."""


class BadPlace(TownError):
    """A place that the town doesn't have, or one place twice for a street."""


class BadStreet(TownError):
    """A street that the town doesn't have."""


class TooMany(TownError):
    """A street more than a town may have at a time."""


class Parted(TownError):
    """A town that has no good ways."""

    def __init__(self, between, apart):
        # Without a text of its own the error would keep the very lists that were handed in.
        super().__init__("the town has no good ways")
        self.between = list(between)
        self.apart = [list(part) for part in apart]


class BadWays(TownError):
    """Ways that aren't good ways of the town."""


class BadText(TownError):
    """A text that isn't a written town."""
