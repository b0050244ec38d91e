"""Strangers' hands: workers who keep notes, and tellers who tell of them."""

from latestword.checks import check_many, is_integer
from latestword.errors import BadWorker
from latestword.leasts import is_shareable
from latestword.lots import at_places, replaced
from latestword.rows import works_behind


def tells_right(teller, notes, number):
    answer = teller(notes)
    return is_integer(answer) and answer == number


def handed_on(office, worker, row, notes):
    """The notes of all desks behind a row, from those ahead of its last work."""
    desks = office.works[row[-1]]
    own = worker(row[-1], at_places(notes, desks))
    if not isinstance(own, tuple) or len(own) != len(desks):
        raise BadWorker(row)
    return replaced(notes, desks, own)


def works_to_try(office, may_skip, row):
    """The works to go on with behind a row, perhaps but those that make no least row."""
    return works_behind(office, row) if may_skip else list(range(len(office.works)))


def judged(book, worker, teller, many):
    check_many(many)
    office = book.office
    blank = (None,) * office.desks
    if not tells_right(teller, blank, book.telling[0]):
        return ()
    # Notes are equal behind alike rows. Where these are told the same, too, the first row
    # that is wrong is the least of those alike to it, and others are left out.
    may_skip = is_shareable(book)
    paths = [((), 0, blank)]
    for length in range(1, many + 1):
        longer = []
        for row, standing, notes in paths:
            for work in works_to_try(office, may_skip, row):
                behind = row + (work,)
                there = book.steps[standing][work]
                led = handed_on(office, worker, behind, notes)
                if not tells_right(teller, led, book.telling[there]):
                    return behind
                if length < many:
                    longer.append((behind, there, led))
        paths = longer
    return None
