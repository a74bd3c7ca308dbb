"""What several files of the package need: numbers that are told apart, and places that are come to."""


def is_whole(thing, least, most):
    """Tell whether a thing of any kind is a whole number from the least one to the most."""
    # The kind is asked first and exactly: True and False count as ints for isinstance,
    # and things of other kinds may fail when they are compared.
    return type(thing) == int and least <= thing <= most


def come_to(streets, place):
    """Tell the places that are come to from a place along the streets, rising."""
    found = {place: True}
    grown = True
    while grown:
        grown = False
        for _, one, other in streets:
            if (one in found) != (other in found):
                found[one] = True
                found[other] = True
                grown = True
    return sorted(found)


def parts_along(many, streets):
    """Tell the parts of so many places that the streets leave, by their least places."""
    told = []
    for place in range(many):
        if not any([place in part for part in told]):
            told.append(come_to(streets, place))
    return told
