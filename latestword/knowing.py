"""What desks know of the number that is told: what it may be, and who is sure of it."""

from latestword.books import check_even, led_from
from latestword.lots import all_lots
from latestword.news import view_row
from latestword.notes import change_by
from latestword.offices import works_without
from latestword.searches import rows_coming


def may_be_told(book, standing, lot):
    """The lot of the numbers told where works without a lot of desks lead from a standing."""
    works = works_without(book.office, lot)

    def beyond(here):
        return [(work, book.steps[here][work]) for work in works]

    return tuple(sorted({book.telling[there]: True for there in rows_coming(standing, beyond)}))


def may_tell(book, row, lot):
    check_even(book)
    # In an even book rows with a view alike to this one stand where it stands, with works
    # without the lot behind it.
    seen = view_row(book.office, row, lot)
    return may_be_told(book, led_from(book, 0, seen), lot)


def sure(book, row, lot):
    numbers = may_tell(book, row, lot)
    return numbers[0] if len(numbers) == 1 else None


def who_sure(book, row):
    return tuple([desk for desk in range(book.office.desks) if sure(book, row, (desk,)) is not None])


def fewest_sure(book, row):
    found = [(len(lot), lot) for lot in all_lots(book.office.desks) if sure(book, row, lot) is not None]
    _, least = min(found)
    return least


def may_tell_by(book, lot, notes):
    standing = change_by(book, lot, notes)[0]
    return may_be_told(book, standing, lot)
