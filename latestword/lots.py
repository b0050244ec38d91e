"""Lots: all there are of some numbers, the pairs of one, and what stands at its places."""


def all_lots(many):
    """The ascending list of all lots of the numbers from 0 to many - 1."""
    lots = [()]
    for number in range(many):
        lots = lots + [lot + (number,) for lot in lots]
    return sorted(lots)


def pairs_of(lot):
    """The ascending list of the pairs of some ascending numbers."""
    return [(one, other) for at, one in enumerate(lot) for other in lot[at + 1:]]


def at_places(things, lot):
    """The tuple of what stands at the places of a lot."""
    return tuple([things[place] for place in lot])


def replaced(things, lot, others):
    """A tuple with other things at the places of a lot."""
    found = list(things)
    for place, other in zip(lot, others):
        found[place] = other
    return tuple(found)
