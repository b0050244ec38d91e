"""Offices to try, rows to try them with, and what DOC.md tells, word for word and slowly."""

import unittest
from functools import lru_cache
from itertools import product

from latestword.books import Book, told
from latestword.errors import BadOffice
from latestword.floors import Floor
from latestword.hatch import Hatch
from latestword.leasts import least_book
from latestword.ledgers import Ledger
from latestword.lines import Line
from latestword.machines import Machine, joined
from latestword.offices import Office

F = Office(2, ((0,), (1,), (0, 1)))
O = Office(3, ((0, 1), (1, 2), (0, 2)))
ALONE = Office(1, ((0,),))
ALONE_TWICE = Office(1, ((0,), (0,)))
RING = Office(4, ((0, 1), (1, 2), (2, 3), (0, 3)))
STAR = Office(4, ((0, 1), (0, 2), (0, 3), (3,)))
IDLE = Office(3, ((1,), (1,), (2,)))
APART = Office(3, ((0,), (1,), (2,)))
SIX_RING = Office(6, ((0, 1), (1, 2), (2, 3), (3, 4), (4, 5), (0, 5)))
SIX = Office(6, ((0,), (1,), (2,), (3,), (4,), (5,), (0, 1, 2), (2, 3), (3, 4, 5), (0, 1, 2, 3, 4, 5)))
SIX_STAR = Office(6, ((0, 1), (0, 2), (0, 3), (0, 4), (0, 5)))
SMALL = [F, O, ALONE, ALONE_TWICE, RING, STAR, IDLE, APART]
LARGE = [SIX_RING, SIX, SIX_STAR]
C = Book(F, (0, 1), ((1, 0, 0), (0, 1, 1)))
W = Book(F, (0, 1, 2), ((1, 2, 0), (1, 1, 1), (2, 2, 2)))


class Case(unittest.TestCase):
    def raises(self, error, function, *arguments):
        """Just this error is raised, and none that derives from it."""
        with self.assertRaises(error) as caught:
            function(*arguments)
        self.assertIs(type(caught.exception), error)


def works_of(office):
    return range(len(office.works))


def rows_of(office, length):
    return list(product(works_of(office), repeat=length))


def rows_to(office, most):
    return [row for length in range(most + 1) for row in rows_of(office, length)]


def long_row(office, length, seed):
    """A row that looks like chance, and is the same each time."""
    row = []
    state = seed * 7919 + 12345
    for _ in range(length):
        state = (state * 1103515245 + 12345) % 2 ** 31
        row.append((state >> 12) % len(office.works))
    return tuple(row)


class Chance:
    """Numbers that look like chance, and are the same each time."""

    def __init__(self, seed):
        self.state = seed * 7919 + 12345

    def below(self, many):
        self.state = (self.state * 1103515245 + 12345) % 2 ** 31
        return (self.state >> 12) % many

    def among(self, things):
        return things[self.below(len(things))]

    def shuffled(self, things):
        left = list(things)
        return [left.pop(self.below(len(left))) for _ in things]


def book_by(office, many, seed, most=3):
    """A book with so many standings, telling numbers below most."""
    chance = Chance(seed)
    telling = tuple(chance.below(most) for _ in range(many))
    return Book(office, telling, tuple(tuple(chance.below(many) for _ in works_of(office)) for _ in range(many)))


def all_notes_of(many):
    return list(product(*[range(number) for number in many]))


def parts_by(office, many, seed, most=10):
    """What a machine is made of; its works turn notes about without losing any, for even seeds."""
    chance = Chance(seed)
    moves = []
    for desks in office.works:
        keys = all_notes_of([many[desk] for desk in desks])
        moves.append(dict(zip(keys, [chance.among(keys) for _ in keys] if seed % 2 else chance.shuffled(keys))))
    return office, many, tuple(moves), {notes: chance.below(most) for notes in all_notes_of(many)}


def machine_by(office, many, seed, most=10):
    return Machine(*parts_by(office, many, seed, most))


def doubled(book, seed):
    """A book that tells the same, with each standing twice; hardly ever an even one."""
    chance = Chance(seed)
    many = len(book.steps)
    steps = tuple(tuple(there + many * chance.below(2) for there in step) for step in book.steps * 2)
    return Book(book.office, book.telling * 2, steps)


def even_books():
    """Even books of the small offices, some with more than twelve standings."""
    found = []
    for office, many in (
        (F, (2, 3)), (O, (2, 2, 2)), (RING, (2, 1, 2, 2)), (STAR, (2, 2, 1, 3)), (IDLE, (1, 3, 2)), (APART, (2, 2, 3)),
        (ALONE, (4,)), (ALONE_TWICE, (5,)),
    ):
        found += [joined(machine_by(office, many, seed, 3)) for seed in (1, 2, 3, 4)]
    return found


def small_even_books():
    """Even books of few works and standings, to go through many rows with."""
    found = [C, Book(F, (4,), ((0, 0, 0),)), Book(APART, (1, 2), ((1, 0, 1), (0, 1, 0)))]
    for office, many in ((F, (2, 2)), (F, (1, 3)), (O, (2, 1, 2)), (APART, (2, 1, 2)), (ALONE, (3,))):
        for seed in range(1, 7):
            book = least_book(joined(machine_by(office, many, seed, 2)))
            if len(book.steps) < 4 and book not in found:
                found.append(book)
    return found


def mixed_books():
    """Small books of all kinds: even, shareable but not even, neither."""
    found = [C, W] + small_even_books()
    found += [doubled(book, seed) for seed, book in enumerate(small_even_books())]
    for office in (F, O, ALONE, ALONE_TWICE, APART, IDLE):
        found += [book_by(office, 1 + seed % 3, seed) for seed in range(1, 10)]
    return found


def adding_book(office, many, adds, telling=None):
    """An even book in which each work adds a number of its own to the standing."""
    steps = tuple(tuple((standing + add) % many for add in adds) for standing in range(many))
    return Book(office, telling or tuple(standing % 10 for standing in range(many)), steps)


def goals_by_rows(book, other):
    """Goals that go by rows: for each standing the one where the other book then stands."""
    found = {0: 0}
    edge = [0]
    while edge:
        standing = edge.pop()
        for work, there in enumerate(book.steps[standing]):
            if there not in found:
                found[there] = other.steps[found[standing]][work]
                edge.append(there)
    return tuple(found[standing] for standing in range(len(book.steps)))


def chain_of_books(office, many, seed):
    """Even books, each of which can be turned into the next, with the goals that lead there."""
    parts = parts_by(office, many, seed)
    tables = [parts[3]] + [{notes: number // by for notes, number in parts[3].items()} for by in (1, 3, 10)]
    books = [joined(Machine(office, many, parts[2], table)) for table in tables]
    books = books[:1] + [least_book(book) for book in books[1:]]
    return books, [goals_by_rows(one, other) for one, other in zip(books, books[1:])]


def tells_from(book, standing, most):
    """What is told from a standing behind all rows up to a length."""
    found = []
    for row in rows_to(book.office, most):
        here = standing
        for work in row:
            here = book.steps[here][work]
        found.append(book.telling[here])
    return tuple(found)


def first_row(office, most, is_wanted):
    """The least of the shortest rows for which something holds, None if none up to a length does."""
    for row in rows_to(office, most):
        if is_wanted(row):
            return row
    return None


def lots_of(many):
    return sorted(
        tuple(desk for desk in range(many) if bits >> desk & 1) for bits in range(2 ** many)
    )


def meeting(office, one, other):
    return one == other or bool(set(office.works[one]) & set(office.works[other]))


def reached(office, row):
    """All alike rows, with the least number of exchanges that lead to them."""
    found = {row: 0}
    edge = [row]
    while edge:
        beyond = []
        for here in edge:
            for at in range(len(here) - 1):
                one, other = here[at], here[at + 1]
                there = here[:at] + (other, one) + here[at + 2:]
                if not meeting(office, one, other) and there not in found:
                    found[there] = found[here] + 1
                    beyond.append(there)
        edge = beyond
    return found


def least_of(office, row):
    return min(reached(office, row))


def pasts(office, row):
    return pasts_of_works(office.works, row)


@lru_cache(maxsize=1000)
def pasts_of_works(works, row):
    found = []
    for event, work in enumerate(row):
        own = {event}
        for place in range(event):
            if set(works[row[place]]) & set(works[work]):
                own |= found[place]
        found.append(own)
    return found


def viewed(office, row, lot):
    found = set()
    for event, own in enumerate(pasts(office, row)):
        if set(office.works[row[event]]) & set(lot):
            found |= own
    return found


def last_in(office, row, events, desk):
    return max((event for event in events if desk in office.works[row[event]]), default=None)


def lasts_in(office, row, events):
    return tuple(last_in(office, row, events, desk) for desk in range(office.desks))


def lasts_behind(office, row, event):
    """The last events of all desks in the past of an event, which may be none."""
    return lasts_in(office, row, set() if event is None else pasts(office, row)[event])


def news_in_words(office, row, desk):
    return lasts_in(office, row, viewed(office, row, (desk,)))


def deeper(office, row, thing):
    """With the last events in their pasts in the place of events."""
    if isinstance(thing, tuple):
        return tuple(deeper(office, row, part) for part in thing)
    return lasts_behind(office, row, thing)


def all_news_in_words(office, row, desk):
    first = news_in_words(office, row, desk)
    second = deeper(office, row, first)
    return first, second, deeper(office, row, second)


def leaves(thing):
    """What stands in nested tuples of events, without None."""
    if isinstance(thing, tuple):
        return {leaf for part in thing for leaf in leaves(part)}
    return set() if thing is None else {thing}


def labels_in_words(office, row):
    found = []
    for event, work in enumerate(row):
        ahead = row[:event]
        taken = set()
        for desk in office.works[work]:
            third = all_news_in_words(office, ahead, desk)[2]
            taken |= {(ahead[place], found[place]) for place in leaves(third)}
        found.append(min(set(range(len(taken) + 1)) - {label for own, label in taken if own == work}))
    return tuple(found)


def named(row, labels, thing):
    if isinstance(thing, tuple):
        return tuple(named(row, labels, part) for part in thing)
    return None if thing is None else (row[thing], labels[thing])


def slip_in_words(office, row, labels, desk):
    return tuple(named(row, labels, part) for part in all_news_in_words(office, row, desk))


def second_events_in_words(office, row):
    found = set()
    for desk in range(office.desks):
        found |= leaves(all_news_in_words(office, row, desk)[1])
    return sorted(found)


def wrong_at(office, row, labels):
    """The least pair of events among the second news behind a row that have one name, or None."""
    events = second_events_in_words(office, row)
    for one in events:
        for other in events:
            if one < other and (row[one], labels[one]) == (row[other], labels[other]):
                return one, other
    return None


def nested(depth, wrap):
    thing = ()
    for _ in range(depth):
        thing = wrap(thing)
    return thing


def shareable_in_words(book, most):
    """Whether all alike rows up to a length are told the same."""
    return all(
        told(book, other) == told(book, row)
        for row in rows_to(book.office, most) for other in reached(book.office, row)
    )


def odd_things():
    """Things of all kinds that an argument may be."""
    return [
        None, True, False, -1, 3, 7, 10 ** 39, -10 ** 39, "", "0", "one", b"", b"0", [], [0], [0, 1], [[0]],
        {}, {0: 0}, {"desks": 1}, (), (0,), (1,), (0, 1), (1, 0), (0, 0), (None,), (True,), (False, True),
        ("0",), (b"0",), ((),), ((0,),), ([0],), ({},), (-1,), (10,), (10 ** 39,), (0, None), (0, "1"),
        ((), ()), ((), [0]), ((0, 1), (1, 0)), ((0, True), (1,)), "01", "().", bytearray(b"0"), range(2),
        nested(39, lambda x: (x,)), nested(39, lambda x: [x]), nested(39, lambda x: {0: x}),
        (nested(38, lambda x: (x, 0)),), tuple(range(9999)), (0,) * 9999, [0] * 9999,
        F, C, (F,), [C], machine_by(F, (2, 1), 1), Floor(C), Ledger(F), Line(C), Hatch(), (Line(C),), Office, Machine, len,
        odd_things, slice(0, 1), Ellipsis, NotImplemented, (NotImplemented,), object(), BadOffice("desks"),
        ValueError("x"), iter(()), memoryview(b"0"),
    ]
