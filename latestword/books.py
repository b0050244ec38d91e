"""Books: machines that tell a number behind each row of an office."""

from latestword.checks import check_row, is_below
from latestword.errors import BadBook, NotEven
from latestword.offices import apart_pairs

MOST_STANDINGS = 12
MOST_TOLD = 9


def is_telling(thing):
    if not isinstance(thing, tuple) or not 1 <= len(thing) <= MOST_STANDINGS:
        return False
    return all([is_below(number, MOST_TOLD + 1) for number in thing])


def are_standings(thing, length, many):
    """Whether a thing is a tuple of so many standings, each below many."""
    if not isinstance(thing, tuple) or len(thing) != length:
        return False
    return all([is_below(part, many) for part in thing])


def are_steps(office, many, thing):
    if not isinstance(thing, tuple) or len(thing) != many:
        return False
    return all([are_standings(part, len(office.works), many) for part in thing])


class Book:
    """For each standing the number told there, and where each work leads from it."""

    def __init__(self, office, telling, steps):
        if not is_telling(telling):
            raise BadBook("telling")
        if not are_steps(office, len(telling), steps):
            raise BadBook("steps")
        self.office = office
        self.telling = telling
        self.steps = steps

    def __eq__(self, other):
        return (isinstance(other, Book) and self.office == other.office
                and self.telling == other.telling and self.steps == other.steps)


def book_of(office, telling, steps):
    """A book of any size, of parts that fit together."""
    # The class bounds the size of books that are passed to it, not of those returned.
    book = Book(office, (0,), ((0,) * len(office.works),))
    book.telling = telling
    book.steps = steps
    return book


def led_from(book, standing, row):
    """The standing to which a row leads from one."""
    for work in row:
        standing = book.steps[standing][work]
    return standing


def stood(book, row):
    check_row(book.office, row)
    return led_from(book, 0, row)


def told(book, row):
    return book.telling[stood(book, row)]


def lead_alike(book, one, other):
    """Whether two works lead in either order from each standing to the same one."""
    return all([book.steps[step[one]][other] == book.steps[step[other]][one] for step in book.steps])


def is_even(book):
    return all([lead_alike(book, one, other) for one, other in apart_pairs(book.office)])


def check_even(book):
    if not is_even(book):
        raise NotEven()
