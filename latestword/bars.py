"""Bars: why no machine for a book can have fewer notes at a desk."""

from latestword.books import led_from
from latestword.checks import are_works, check_desk
from latestword.errors import NotShareable
from latestword.leasts import is_shareable, least_book
from latestword.searches import rows_coming


def least_shared(book, desk):
    """The least book of a shareable one, behind the checks of it and of a desk."""
    if not is_shareable(book):
        raise NotShareable()
    check_desk(book.office, desk)
    return least_book(book)


def works_alone(office, desk):
    """The list of the works whose only desk this is."""
    return [work for work, desks in enumerate(office.works) if desks == (desk,)]


def rows_from(book, standing, works):
    """The standings that come from one by some works, each with a row that leads to it."""
    def beyond(here):
        return [(work, book.steps[here][work]) for work in works]

    return rows_coming(standing, beyond)


def widest(least, desk):
    """A standing from which most others come by works of a desk alone."""
    works = works_alone(least.office, desk)
    many = [len(rows_from(least, standing, works)) for standing in range(len(least.steps))]
    return many.index(max(many))


def must_have(book, desk):
    least = least_shared(book, desk)
    return len(rows_from(least, widest(least, desk), works_alone(book.office, desk)))


def bar_rows(book, desk):
    least = least_shared(book, desk)
    standing = widest(least, desk)
    rows = rows_from(least, 0, list(range(len(book.office.works))))
    return rows[standing], list(rows_from(least, standing, works_alone(book.office, desk)).values())


def are_rows_alone(office, desk, thing):
    """Whether a thing is a list of one row or more, of works of a desk alone."""
    works = works_alone(office, desk)
    if not isinstance(thing, list) or len(thing) == 0:
        return False
    return all([are_works(office, row) and all([work in works for work in row]) for row in thing])


def is_bar(book, desk, thing):
    least = least_shared(book, desk)
    if not isinstance(thing, tuple) or len(thing) != 2:
        return False
    row, rows = thing
    if not are_works(book.office, row) or not are_rows_alone(book.office, desk, rows):
        return False
    standing = led_from(least, 0, row)
    # Behind unlike standings of a least book, and no others, some row is told unlike.
    return len({led_from(least, standing, own): True for own in rows}) == len(rows)
