"""Least books, books that tell the same, and which ones can be shared out."""

from latestword.books import book_of, is_even, lead_alike, told
from latestword.errors import NoMatch
from latestword.offices import works_meet
from latestword.searches import least_found, rows_coming


def check_match(one, other):
    """Raises NoMatch for two things of unlike offices."""
    if one.office != other.office:
        raise NoMatch()


def split_kinds(book, kinds):
    """Kinds of standings that are of one kind, and lead to one kind by each work."""
    numbers = {}
    found = []
    for kind, step in zip(kinds, book.steps):
        key = (kind, tuple([kinds[there] for there in step]))
        found.append(numbers.setdefault(key, len(numbers)))
    return found


def all_kinds(book):
    """For each standing the number of its kind: from one kind the same is told behind all rows."""
    kinds = list(book.telling)
    finer = split_kinds(book, kinds)
    while len({kind: True for kind in finer}) > len({kind: True for kind in kinds}):
        kinds = finer
        finer = split_kinds(book, kinds)
    return kinds


def book_coming(office, start, tell, lead):
    """The book whose standings are the things that come from a start.

    tell tells the number of a thing, lead to which one it leads by a work.
    """
    works = list(range(len(office.works)))

    def beyond(here):
        return [(work, lead(here, work)) for work in works]

    things = list(rows_coming(start, beyond))
    numbers = {thing: number for number, thing in enumerate(things)}
    telling = tuple([tell(thing) for thing in things])
    steps = tuple([tuple([numbers[lead(thing, work)] for work in works]) for thing in things])
    return book_of(office, telling, steps)


def least_book(book):
    kinds = all_kinds(book)
    standing_of = {kind: standing for standing, kind in enumerate(kinds)}

    def tell(kind):
        return book.telling[standing_of[kind]]

    def lead(kind, work):
        return kinds[book.steps[standing_of[kind]][work]]

    return book_coming(book.office, kinds[0], tell, lead)


def same(one, other):
    check_match(one, other)
    # Least books are numbered by rows alone, so that those that tell the same are equal.
    return least_book(one) == least_book(other)


def parting_row(one, other):
    if same(one, other):
        return None

    def beyond(pair):
        return list(enumerate(zip(one.steps[pair[0]], other.steps[pair[1]])))

    def are_unlike(pair):
        return one.telling[pair[0]] != other.telling[pair[1]]

    return least_found((0, 0), beyond, are_unlike)


def is_shareable(book):
    return is_even(least_book(book))


def torn_row(book):
    """The least of the shortest rows that is told otherwise by an exchange, or None.

    What comes is a triple: the standing, the one behind the exchanged row, and the first
    work of the two that are being exchanged, at the standings ahead of it, or None.
    """
    works = list(range(len(book.office.works)))

    def beyond(here):
        first, second, held = here
        if held is not None:
            apart = [work for work in works if not works_meet(book.office, held, work)]
            behind = book.steps[first][held]
            return [(work, (book.steps[behind][work], book.steps[book.steps[first][work]][held], None))
                    for work in apart]
        led = [(work, (book.steps[first][work], book.steps[second][work], None)) for work in works]
        if first == second:
            return led + [(work, (first, second, work)) for work in works]
        return led

    def is_torn(here):
        return book.telling[here[0]] != book.telling[here[1]]

    return least_found((0, 0, None), beyond, is_torn)


def exchanged(row, place):
    """A row with the works at a place and at the next one exchanged."""
    return row[:place] + (row[place + 1], row[place]) + row[place + 2:]


def torn(book):
    if is_shareable(book):
        return None
    row = torn_row(least_book(book))
    places = [
        place for place in range(len(row) - 1)
        if not works_meet(book.office, row[place], row[place + 1])
        and told(book, exchanged(row, place)) != told(book, row)
    ]
    return row, places[0]


def may_be_apart(book):
    least = least_book(book)
    many = len(book.office.works)
    return [
        (one, other)
        for one in range(many)
        for other in range(one + 1, many)
        if lead_alike(least, one, other)
    ]
