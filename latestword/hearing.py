"""How desks hear of all that was done: by as few works more as can be."""

from latestword.checks import check_desk, check_row
from latestword.errors import TooMany
from latestword.searches import least_found
from latestword.trails import NO_EVENT, led

MOST_HEARING = 4


def heard_at_first(trail, desk):
    """For each desk whether this one has heard of all its events behind the row of a trail."""
    return tuple([last == NO_EVENT or trail.has(trail.lasts[desk], last) for last in trail.lasts])


def all_heard_at_first(trail):
    return tuple([heard_at_first(trail, desk) for desk in range(trail.office.desks)])


def heard_behind(heard, desks):
    """What all desks have heard behind a work of some of them."""
    met = tuple([any([heard[desk][goal] for desk in desks]) for goal in range(len(heard))])
    return tuple([met if desk in desks else own for desk, own in enumerate(heard)])


def least_to_hear(office, row, desks):
    """The least of the shortest rows behind which each of some desks has heard of all events."""
    def beyond(heard):
        return [(work, heard_behind(heard, team)) for work, team in enumerate(office.works)]

    def is_enough(heard):
        return all([all(heard[desk]) for desk in desks])

    return least_found(all_heard_at_first(led(office, row)), beyond, is_enough)


def check_few_desks(office):
    if office.desks > MOST_HEARING:
        raise TooMany(MOST_HEARING)


def fewest_to_hear(office, row, desk):
    check_row(office, row)
    check_desk(office, desk)
    check_few_desks(office)
    return least_to_hear(office, row, (desk,))


def fewest_for_all(office, row):
    check_row(office, row)
    check_few_desks(office)
    return least_to_hear(office, row, list(range(office.desks)))
