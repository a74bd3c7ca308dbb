"""Where walks along streets lead."""

from onewaytown.errors import BadPlace
from onewaytown.ground import come_to, is_whole, parts_along


def reached(town, place):
    """Tell all places that are come to from a place, itself too, rising."""
    if not is_whole(place, 0, town.places() - 1):
        raise BadPlace("walks begin at a place of the town")
    return come_to(town.streets(), place)


def parts(town):
    """Tell the lists of places that are come to from one another, by their least places."""
    return parts_along(town.places(), town.streets())
