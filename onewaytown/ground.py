"""What several files of the package need: numbers that are told apart, and where walks lead."""


def is_whole(thing, least, most):
    """Tell whether a thing of any kind is a whole number from the least one to the most."""
    # The kind is asked first and exactly: True and False count as ints for isinstance,
    # and things of other kinds may fail when they are compared.
    return type(thing) == int and least <= thing <= most


def both_ways(streets):
    """Tell the steps (street, from, to) along each street, the one way and the other."""
    told = []
    for street, one, other in streets:
        told.append((street, one, other))
        told.append((street, other, one))
    return told


def walks_from(steps, place):
    """Tell a shortest walk by steps to each place that is come to, the nearest places first."""
    walks = {place: []}
    waiting = [place]
    while waiting:
        at = waiting.pop(0)
        for step in steps:
            if step[1] == at and step[2] not in walks:
                walks[step[2]] = walks[at] + [step]
                waiting.append(step[2])
    return walks


def come_to(streets, place):
    """Tell the places that are come to from a place along the streets, rising."""
    return sorted(walks_from(both_ways(streets), place))


def parts_along(many, streets):
    """Tell the parts of so many places that the streets leave, by their least places."""
    told = []
    for place in range(many):
        if not any([place in part for part in told]):
            told.append(come_to(streets, place))
    return told
