"""The streets that part a town, and the pieces that are left without them."""

from onewaytown.ground import come_to, parts_along


def _parts_its_ends(streets, row):
    """Tell whether a street's ends are apart when it alone is dug up."""
    street, one, other = row
    left = [kept for kept in streets if kept[0] != street]
    return other not in come_to(left, one)


def _parting_rows(town):
    """Tell the streets that part a town, each with its ends, rising."""
    streets = town.streets()
    return [row for row in streets if _parts_its_ends(streets, row)]


def _pieces_without(town, between):
    """Tell the parts that are left when the rows between them are dug up."""
    left = [row for row in town.streets() if row not in between]
    return parts_along(town.places(), left)


def _leading_out(piece, between):
    """Tell how many of the streets that part lead out of a piece."""
    # None of them has both ends in one piece, for its ends are apart without it.
    return len([row for row in between if row[1] in piece or row[2] in piece])


def parting(town):
    """Tell the numbers of the streets that part a town, rising."""
    return [row[0] for row in _parting_rows(town)]


def pieces(town):
    """Tell the parts that are left when all streets that part are dug up."""
    return _pieces_without(town, _parting_rows(town))


def ends(town):
    """Tell the pieces that want streets as rows (piece, 1 or 2), by their least places."""
    between = _parting_rows(town)
    left = _pieces_without(town, between)
    if len(left) < 2:
        return []
    wanting = []
    for piece in left:
        leading = _leading_out(piece, between)
        if leading < 2:
            # One street that parts leaves one to be wanted, none leaves two.
            wanting.append((piece, 2 - leading))
    return wanting
