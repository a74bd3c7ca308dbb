"""Ways for all streets by which each place is come to from each, and rounds that show it."""

from onewaytown.errors import BadWays, Parted
from onewaytown.ground import walks_from
from onewaytown.handles import handles
from onewaytown.parting import parting
from onewaytown.walks import parts


def _is_step_along(thing, row):
    """Tell whether a thing of any kind is a step along a street, the one way or the other."""
    # Kinds are asked ahead of comparing: True is equal to 1, and other things may fail then.
    if type(thing) != tuple or not all([type(number) == int for number in thing]):
        return False
    street, one, other = row
    return thing == (street, one, other) or thing == (street, other, one)


def one_way(town):
    """Tell good ways of the town, by streets."""
    between = parting(town)
    apart = parts(town)
    if between or len(apart) > 1:
        raise Parted(between, apart)
    # A ring leads round from each of its places to each, and a handle that is walked in one
    # direction comes from such places and leads back to them.
    return sorted([step for row in handles(town) for step in row])


def is_one_way(town, thing):
    """Tell whether a thing of any kind is a list of good ways of the town, by streets."""
    streets = town.streets()
    if type(thing) != list or len(thing) != len(streets):
        return False
    if not all([_is_step_along(step, row) for step, row in zip(thing, streets)]):
        return False
    many = town.places()
    return all([len(walks_from(thing, place)) == many for place in range(many)])


def round_trip(town, ways):
    """Tell a row of steps by good ways, from place 0 and back, with each street in it."""
    if not is_one_way(town, ways):
        raise BadWays("these are no good ways of the town")
    told = []
    at = 0
    for step in ways:
        if step not in told:
            told.extend(walks_from(ways, at)[step[1]])
            told.append(step)
            at = step[2]
    return told + walks_from(ways, at)[0]
