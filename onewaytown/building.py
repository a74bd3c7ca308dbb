"""The fewest streets to be built so that a town has good ways."""

from onewaytown.ground import both_ways
from onewaytown.parting import ends
from onewaytown.walks import parts


def _in_depth(steps, place):
    """Tell the places of a walk from a place that turns back only where no new place is ahead."""
    told = []
    waiting = [place]
    while waiting:
        at = waiting.pop()
        if at not in told:
            told.append(at)
            waiting.extend([step[2] for step in steps if step[1] == at])
    return told


def fewest(town):
    """Tell as few pairs of places as can be, so that streets between them make good ways."""
    steps = both_ways(town.streets())
    wants = {piece[0]: many for piece, many in ends(town)}
    told = []
    free = []
    for part in parts(town):
        walk = _in_depth(steps, part[0])
        wanting = [place for place in walk for _ in range(wants.get(place, 0))]
        if free:
            # A part of several wants two streets at least: here one of them goes to the parts
            # ahead, and one is left for the parts behind, so each pair takes two of all wanted.
            told.append((free.pop(), wanting.pop(0)))
        free.extend(wanting)
    # Seen as a circle, this order has the free places on each side of a street that parts side
    # by side, and one side has at most half of them: half a circle on is always the other side.
    half = len(free) // 2
    return told + list(zip(free, free[half:]))
