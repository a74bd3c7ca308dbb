"""Rings and handles: rows of steps that make up the pieces of a town."""

from onewaytown.ground import both_ways, walks_from
from onewaytown.parting import parting, pieces


def _row_from(steps, had):
    """Tell a row of steps that begins and ends at places that are had, through others only."""
    first = [step for step in steps if step[1] in had][0]
    others = [step for step in steps if step[0] != first[0]]
    walks = walks_from(others, first[2])
    # Walks are told as they are found, so none goes to the first such place through another one.
    last = [place for place in walks if place in had][0]
    return [first] + walks[last]


def _rows_of(piece, steps):
    """Tell the rows of a piece, of whose streets these are the steps, both ways."""
    told = []
    # With the least place alone to begin and to end at, the first row is a ring.
    had = piece[:1]
    while steps:
        row = _row_from(steps, had)
        told.append(row)
        had.extend([step[2] for step in row[:-1]])
        used = [step[0] for step in row]
        steps = [step for step in steps if step[0] not in used]
    return told


def handles(town):
    """Tell the rings and handles of the pieces, piece by piece."""
    between = parting(town)
    steps = both_ways([row for row in town.streets() if row[0] not in between])
    told = []
    for piece in pieces(town):
        told.extend(_rows_of(piece, [step for step in steps if step[1] in piece]))
    return told
