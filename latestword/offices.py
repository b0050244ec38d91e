"""Offices: how many desks there are, and which of them do each work together."""

from latestword.checks import check_desk, check_lot, check_work, is_integer, is_lot
from latestword.errors import BadOffice

MOST_DESKS = 6
MOST_WORKS = 10


def are_office_works(desks, works):
    """Whether something can be the works of an office with so many desks."""
    if not isinstance(works, tuple) or not 1 <= len(works) <= MOST_WORKS:
        return False
    return all([is_lot(lot, desks) and len(lot) > 0 for lot in works])


class Office:
    """Some desks, and for each work the lot of those that do it."""

    def __init__(self, desks, works):
        if not is_integer(desks) or not 1 <= desks <= MOST_DESKS:
            raise BadOffice("desks")
        if not are_office_works(desks, works):
            raise BadOffice("works")
        self.desks = desks
        self.works = works

    def __eq__(self, other):
        return isinstance(other, Office) and self.desks == other.desks and self.works == other.works


def works_meet(office, one, other):
    """Whether two works have a desk in common; a work has, with itself."""
    return any([desk in office.works[other] for desk in office.works[one]])


def meet(office, one, other):
    check_work(office, one)
    check_work(office, other)
    return works_meet(office, one, other)


def apart_pairs(office):
    many = len(office.works)
    return [
        (one, other)
        for one in range(many)
        for other in range(one + 1, many)
        if not works_meet(office, one, other)
    ]


def own_works(office, desk):
    check_desk(office, desk)
    return tuple([work for work, desks in enumerate(office.works) if desk in desks])


def works_within(office, lot):
    check_lot(office, lot)
    return tuple([
        work for work, desks in enumerate(office.works)
        if all([desk in lot for desk in desks])
    ])


def works_without(office, lot):
    check_lot(office, lot)
    return tuple([
        work for work, desks in enumerate(office.works)
        if not any([desk in lot for desk in desks])
    ])
