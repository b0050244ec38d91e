"""What is an integer, a desk, a work, a lot or a row, and the errors for what is none."""

from latestword.errors import NoDesk, NoLot, NoMany, NoRow, NoWork

MOST_JUDGED = 6


def is_integer(thing):
    return isinstance(thing, int) and not isinstance(thing, bool)


def is_number(thing):
    """Whether a thing is an integer from 0 on."""
    return is_integer(thing) and thing >= 0


def is_below(thing, many):
    """Whether a thing is an integer from 0 to many - 1."""
    return is_number(thing) and thing < many


def is_lot(thing, many):
    """Whether a thing is an ascending tuple of unlike integers from 0 to many - 1."""
    if not isinstance(thing, tuple) or not all([is_below(part, many) for part in thing]):
        return False
    return all([low < high for low, high in zip(thing, thing[1:])])


def are_works(office, thing):
    """Whether a thing is a tuple of works, in any order."""
    many = len(office.works)
    return isinstance(thing, tuple) and all([is_below(part, many) for part in thing])


def check_work(office, work):
    if not is_below(work, len(office.works)):
        raise NoWork()


def check_desk(office, desk):
    if not is_below(desk, office.desks):
        raise NoDesk()


def check_lot(office, lot):
    if not is_lot(lot, office.desks):
        raise NoLot()


def check_row(office, row):
    if not are_works(office, row):
        raise NoRow()


def check_many(many):
    """Raises NoMany for what is no length up to which strangers are judged."""
    if not is_below(many, MOST_JUDGED + 1):
        raise NoMany()
