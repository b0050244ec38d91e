"""Strangers' labels, and strangers who deal labels out: whether they are right."""

from latestword.checks import check_many, check_row, is_number
from latestword.errors import BadDealer, NoLabels, TooMany
from latestword.lots import pairs_of
from latestword.rows import works_behind
from latestword.slips import slips_for
from latestword.trails import Trail

MOST_COLOURED = 12


def first_same(trail):
    """The least pair of events among the second news of all desks with one name, or None."""
    for one, other in pairs_of(trail.second_events()):
        if trail.names[one] == trail.names[other]:
            return one, other
    return None


def are_labels(row, thing):
    if not isinstance(thing, tuple) or len(thing) != len(row):
        return False
    return all([is_number(label) for label in thing])


def first_wrong(office, row, labels):
    check_row(office, row)
    if not are_labels(row, labels):
        raise NoLabels()
    trail = Trail(office)
    for work, label in zip(row, labels):
        trail.lead(work, label)
        same = first_same(trail)
        if same is not None:
            return len(trail.row), same[0], same[1]
    return None


def are_right(office, row, labels):
    return first_wrong(office, row, labels) is None


def clashing(office, row):
    check_row(office, row)
    trail = Trail(office)
    found = {}
    for work in row:
        trail.lead(work)
        for one, other in pairs_of(trail.second_events()):
            if row[one] == row[other]:
                found[one, other] = True
    return sorted(found)


def can_label(foes, many, given):
    """Whether labels below many can be put behind those given, unlike those of each event's foes."""
    event = len(given)
    if event == len(foes):
        return True
    # Labels that are not yet in use are worth the same: one of them is tried.
    for label in range(min(many, max(given, default=-1) + 2)):
        free = all([given[foe] != label for foe in foes[event]])
        if free and can_label(foes, many, given + (label,)):
            return True
    return False


def fewest_labels(office, row):
    check_row(office, row)
    if len(row) > MOST_COLOURED:
        raise TooMany(MOST_COLOURED)
    clashes = clashing(office, row)
    foes = [[one for one, other in clashes if other == event] for event in range(len(row))]
    many = 0
    while not can_label(foes, many, ()):
        many += 1
    return many


def ask(trail, work, dealer):
    """The label that a dealer deals out to a work done behind the row of a trail."""
    label = dealer(work, slips_for(trail, work))
    if not is_number(label):
        raise BadDealer(trail.row + (work,))
    return label


def dealt(office, row, dealer):
    check_row(office, row)
    trail = Trail(office)
    found = []
    for work in row:
        found.append(ask(trail, work, dealer))
        trail.lead(work, found[-1])
    return tuple(found)


def judged_dealer(office, dealer, many):
    check_many(many)
    # Alike rows end with the same slips and names, and in a shortest row with a given
    # call of the dealer all events come ahead of the last one: so the least of the
    # shortest rows sought is the least of those alike to it, and others are left out.
    trails = [Trail(office)]
    for length in range(1, many + 1):
        longer = []
        for trail in trails:
            for work in works_behind(office, trail.row):
                other = trail.led_on(work, ask(trail, work, dealer))
                if first_same(other) is not None:
                    return other.row
                if length < many:
                    longer.append(other)
        trails = longer
    return None
