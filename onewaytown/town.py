"""Towns of places and streets that are built and dug up."""

from onewaytown.errors import BadCount, BadPlace, BadStreet, TooMany
from onewaytown.ground import is_whole

MOST_PLACES = 16
MOST_STREETS = 60


class Town:
    """Places numbered from 0, and the streets that join them."""

    def __init__(self, many):
        if not is_whole(many, 1, MOST_PLACES):
            raise BadCount("a town has 1 to 16 places")
        self._many = many
        self._ends = {}
        # Counted apart from the streets that are there, so that no number comes again.
        self._built = 0

    def places(self):
        """Tell how many places the town has."""
        return self._many

    def build(self, one, other):
        """Build a street between two unlike places, and tell its number."""
        if not is_whole(one, 0, self._many - 1):
            raise BadPlace("the first end is no place of the town")
        if not is_whole(other, 0, self._many - 1):
            raise BadPlace("the second end is no place of the town")
        if one == other:
            raise BadPlace("a street joins two unlike places")
        if len(self._ends) >= MOST_STREETS:
            raise TooMany("a town has at most 60 streets at a time")
        street = self._built
        self._ends[street] = (one, other)
        self._built = street + 1
        return street

    def dig(self, street):
        """Dig up a street."""
        if not is_whole(street, 0, self._built - 1) or street not in self._ends:
            raise BadStreet("the town has no such street")
        del self._ends[street]

    def streets(self):
        """Tell the streets as rows (street, one, other), rising, ends as they were built."""
        return [(street, one, other) for street, (one, other) in self._ends.items()]
