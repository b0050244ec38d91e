"""Point 9.2: what the whole logs of some desks tell."""

import unittest
from itertools import product

from helper import (
    ALONE, ALONE_TWICE, APART, C, Case, F, IDLE, O, RING, SIX, STAR, W, book_by, doubled, long_row, lots_of, machine_by,
    odd_things, rows_to, small_even_books, works_of
)
from latestword.books import Book, is_even, told
from latestword.errors import NoLogs, NoLot
from latestword.fromlogs import least_with, may_from_logs
from latestword.knowing import may_tell
from latestword.leasts import is_shareable
from latestword.logs import from_logs
from latestword.machines import joined
from latestword.offices import Office, own_works
from latestword.rows import least_row


def logs_in_words(office, row, lot):
    return tuple(tuple(work for work in row if desk in office.works[work]) for desk in lot)


def all_logs_to(office, lot, most):
    """All tuples of logs of a lot, of at most so many entries each."""
    own = [
        [entries for length in range(most + 1) for entries in product(own_works(office, desk), repeat=length)]
        for desk in lot
    ]
    return list(product(*own))


def rows_by_logs(office, most):
    """For each lot and its logs all rows up to a length, shorter ones ahead, then ascending."""
    found = {}
    for row in rows_to(office, most):
        for lot in lots_of(office.desks):
            found.setdefault((lot, logs_in_words(office, row, lot)), []).append(row)
    return found


class LeastWith(Case):
    def test_some(self):
        self.assertEqual(least_with(F, (0,), ((0, 2),)), (0, 2))
        self.assertEqual(least_with(F, (1,), ((2, 1),)), (2, 1))
        self.assertEqual(least_with(F, (0, 1), ((0, 2), (1, 2))), (0, 1, 2))
        self.assertEqual(least_with(F, (0, 1), ((0, 2), (2, 1))), (0, 2, 1))
        self.assertIs(least_with(F, (0, 1), ((0, 2), (1,))), None)
        self.assertEqual(least_with(F, (), ()), ())
        self.assertEqual(least_with(F, (0,), ((),)), ())

    def test_logs_that_no_row_has(self):
        self.assertIs(least_with(F, (0, 1), ((2,), ())), None)
        self.assertIs(least_with(F, (0, 1), ((2, 2), (2,))), None)
        # Each desk waits for another one.
        self.assertIs(least_with(O, (0, 1, 2), ((0, 2), (1, 0), (2, 1))), None)
        self.assertEqual(least_with(O, (0, 1), ((0, 2), (1, 0))), (1, 0, 2))
        self.assertEqual(least_with(O, (1, 2), ((1, 0), (2, 1))), (2, 1, 0))

    def test_by_words(self):
        answers = {True: 0, False: 0}
        for office, most in ((F, 6), (O, 5), (ALONE, 6), (ALONE_TWICE, 6), (IDLE, 6), (APART, 6)):
            table = rows_by_logs(office, most)
            for lot in lots_of(office.desks):
                for logs in all_logs_to(office, lot, most // max(1, len(lot))):
                    row = table.get((lot, logs), [None])[0]
                    self.assertEqual(least_with(office, lot, logs), row)
                    answers[row is None] += 1
        self.assertTrue(answers[True] > 50 and answers[False] > 50)

    def test_logs_of_all_desks(self):
        for office in (F, O, RING, STAR, SIX, APART):
            for seed in range(5):
                row = long_row(office, 60, seed)
                everybody = tuple(range(office.desks))
                logs = logs_in_words(office, row, everybody)
                self.assertEqual(least_with(office, everybody, logs), least_row(office, row))
                self.assertEqual(from_logs(office, logs), least_row(office, row))

    def test_logs_of_some_desks_of_long_rows(self):
        for office in (O, RING, STAR, SIX):
            row = long_row(office, 60, 3)
            for lot in lots_of(office.desks):
                logs = logs_in_words(office, row, lot)
                least = least_with(office, lot, logs)
                self.assertEqual(logs_in_words(office, least, lot), logs)
                own = tuple(work for work in row if set(office.works[work]) & set(lot))
                self.assertEqual(sorted(least), sorted(own))
                self.assertLessEqual(least, own)


class MayFromLogs(Case):
    def test_some(self):
        self.assertEqual(may_from_logs(C, (0,), ((0, 2),)), (1,))
        self.assertEqual(may_from_logs(C, (1,), ((2,),)), (0, 1))
        self.assertEqual(may_from_logs(C, (0, 1), ((0, 0), ())), (0,))
        self.assertEqual(may_from_logs(C, (0, 1), ((2,), ())), ())
        self.assertEqual(may_from_logs(C, (), ()), (0, 1))
        self.assertEqual(may_from_logs(Book(F, (7, 4), C.steps), (0,), ((0,),)), (4,))

    def test_books_that_are_not_even(self):
        self.assertEqual(may_from_logs(W, (0, 1), ((0,), (1,))), (1, 2))
        self.assertEqual(may_from_logs(W, (0,), ((0,),)), (1, 2))
        self.assertEqual(may_from_logs(W, (0,), ((),)), (0, 2))
        self.assertEqual(may_from_logs(W, (1,), ((1, 1, 2),)), (1, 2))
        self.assertEqual(may_from_logs(W, (0, 1), ((0, 2), (2, 1))), (1,))

    def compare(self, book, most, entries):
        table = rows_by_logs(book.office, most)
        found = set()
        for lot in lots_of(book.office.desks):
            for logs in all_logs_to(book.office, lot, entries // max(1, len(lot))):
                numbers = tuple(sorted({told(book, row) for row in table.get((lot, logs), [])}))
                self.assertEqual(may_from_logs(book, lot, logs), numbers)
                found.add(numbers)
        return found

    def test_by_words(self):
        found = set()
        for book in small_even_books():
            if len(book.steps) < 3:
                found |= self.compare(book, 7 if book.office == F else 6, 2)
        for seed in range(1, 12):
            for office in (F, APART, IDLE):
                found |= self.compare(book_by(office, 2, seed), 6, 2)
        self.assertTrue({(), (0,), (0, 1)} <= found)

    def test_three_standings_by_words(self):
        kinds = set()
        for book in [W, Book(F, (2, 1, 0), W.steps)] + [book_by(F, 3, seed) for seed in range(1, 9)]:
            self.compare(book, 8, 2)
            kinds.add((is_even(book), is_shareable(book)))
        self.assertIn((False, False), kinds)

    def test_works_of_several_desks_by_words(self):
        # Works of the lot with others, and works of others between them.
        office = Office(3, ((0, 2), (1, 2), (2,), (0,)))
        for seed in range(1, 8):
            self.compare(book_by(office, 2, seed), 6, 2)
        for seed in range(1, 5):
            book = joined(machine_by(office, (2, 1, 1), seed, 2))
            self.compare(book, 6, 2)

    def test_doubled_books_tell_the_same(self):
        for seed, book in enumerate(small_even_books()):
            for lot in lots_of(book.office.desks):
                for logs in all_logs_to(book.office, lot, 1):
                    self.assertEqual(may_from_logs(doubled(book, seed), lot, logs), may_from_logs(book, lot, logs))

    def test_logs_of_all_desks(self):
        for office, many in ((F, (2, 3)), (O, (2, 2, 2)), (RING, (2,) * 4), (SIX, (2,) * 6)):
            book = joined(machine_by(office, many, 2))
            for seed in range(3):
                row = long_row(office, 60, seed)
                everybody = tuple(range(office.desks))
                self.assertEqual(may_from_logs(book, everybody, logs_in_words(office, row, everybody)), (told(book, row),))

    def test_long_logs(self):
        for office, many in ((F, (2, 3)), (O, (2, 2, 2)), (RING, (2,) * 4), (STAR, (2,) * 4), (APART, (3, 2, 2))):
            book = joined(machine_by(office, many, 4, 3))
            row = long_row(office, 60, 5)
            for lot in lots_of(office.desks):
                numbers = may_from_logs(book, lot, logs_in_words(office, row, lot))
                self.assertIn(told(book, row), numbers)
                # Views tell more than logs alone do.
                self.assertLessEqual(set(may_tell(book, row, lot)), set(numbers))

    def test_ten_entries_each_of_six_desks(self):
        office = Office(6, tuple((desk,) for desk in range(6)))
        book = joined(machine_by(office, (2,) * 6, 2))
        for entries in ((10,) * 6, (60, 0, 0, 0, 0, 0), (10, 20, 30, 0, 0, 0)):
            logs = tuple((desk,) * many for desk, many in enumerate(entries))
            row = tuple(work for log in logs for work in log)
            self.assertEqual(may_from_logs(book, tuple(range(6)), logs), (told(book, row),))
            self.assertEqual(least_with(office, tuple(range(6)), logs), row)

    def test_long_logs_of_a_book_that_is_not_even(self):
        logs = ((0,) * 30, (1,) * 30)
        self.assertEqual(may_from_logs(W, (0, 1), logs), (1, 2))
        last = Book(F, (0, 1, 2), ((1, 2, 0), (1, 2, 1), (1, 2, 2)))
        self.assertEqual(may_from_logs(last, (0, 1), logs), (1, 2))
        self.assertEqual(may_from_logs(last, (0, 1), ((0,) * 30 + (2,), (2,) + (1,) * 30)), (2,))
        self.assertEqual(may_from_logs(last, (0,), ((0,) * 60,)), (1, 2))
        self.assertEqual(may_from_logs(last, (1,), ((2,) * 60,)), (0, 1))


class Errors(Case):
    def test_no_lot_is_ahead(self):
        for thing in odd_things() + [(2,), (1, 0), (0, 0), [0], (False,), 0]:
            plain = type(thing) is tuple and all(type(part) is int for part in thing)
            if not plain or thing not in ((), (0,), (1,), (0, 1)):
                for logs in ((), None, ((0,),), ((9,),)):
                    self.raises(NoLot, least_with, F, thing, logs)
                    self.raises(NoLot, may_from_logs, C, thing, logs)
                    self.raises(NoLot, may_from_logs, W, thing, logs)

    def no_logs(self, lot, logs):
        self.raises(NoLogs, least_with, F, lot, logs)
        self.raises(NoLogs, may_from_logs, C, lot, logs)
        self.raises(NoLogs, may_from_logs, W, lot, logs)

    def test_no_logs(self):
        for lot, logs in (
            ((), ((),)), ((0,), ()), ((0,), ((), ())), ((0, 1), ((),)), ((0, 1), ((), (), ())), ((0,), [()]), ((0,), ([],)),
            ((0,), (0,)), ((0,), ((3,),)), ((0,), ((-1,),)), ((0,), ((True,),)), ((0,), ((False,),)), ((0,), ((None,),)),
            ((0,), (("0",),)), ((0,), ("0",)), ((0,), ((0, (2,)),)), ((0, 1), ((), [2])), ((0,), {0: ()}), ((), None),
            ((), []), ((), 0), ((), ""), ((0,), ({},)), ((0,), ((0, [2]),)),
            # A work of which the desk is none.
            ((0,), ((1,),)), ((0,), ((0, 2, 1),)), ((1,), ((0,),)), ((0, 1), ((0,), (0,))), ((0, 1), ((1,), (1,))),
        ):
            self.no_logs(lot, logs)

    def test_every_kind(self):
        for thing in odd_things():
            self.no_logs((0,), thing) if not self.are_right(thing, (0,)) else None
            if thing != ():
                self.no_logs((), thing)
            self.no_logs((0,), ((thing,),)) if not (type(thing) is int and thing in (0, 2)) else None
            if not self.are_right((thing,), (0,)):
                self.no_logs((0,), (thing,))
                self.no_logs((0, 1), (thing, (2,)))
            if not self.are_right((thing,), (1,)):
                self.no_logs((0, 1), ((2,), thing))

    def are_right(self, thing, lot):
        return type(thing) is tuple and len(thing) == len(lot) and all(
            type(log) is tuple and all(type(work) is int and work in own_works(F, desk) for work in log)
            for desk, log in zip(lot, thing)
        )

    def test_works_that_nobody_of_the_lot_does(self):
        self.assertEqual(list(works_of(F)), [0, 1, 2])
        self.no_logs((1,), ((1, 2, 0),))


if __name__ == "__main__":
    unittest.main()
