"""Point 9.1: what desks know of the number that is told."""

import unittest
from functools import lru_cache

from helper import (
    ALONE, APART, C, Case, F, O, RING, SIX, W, doubled, even_books, least_of, long_row, lots_of, machine_by, odd_things,
    reached, rows_to, small_even_books, viewed
)
from latestword.books import Book, is_even, told
from latestword.errors import NoLot, NoNotes, NoRow, NotEven
from latestword.knowing import fewest_sure, may_tell, may_tell_by, sure, who_sure
from latestword.machines import joined
from latestword.notes import blank_note, note
from latestword.offices import Office


class OfBook:
    """May_tell word for word: all rows up to a length, by what their views are alike to."""

    def __init__(self, book, most):
        self.book = book
        self.table = {}
        for row in rows_to(book.office, most):
            for lot in lots_of(book.office.desks):
                self.table.setdefault((lot, self.seen(row, lot)), set()).add(told(book, row))

    def seen(self, row, lot):
        events = sorted(viewed(self.book.office, row, lot))
        return least(self.book.office.works, self.book.office.desks, tuple(row[event] for event in events))

    def may_tell(self, row, lot):
        return tuple(sorted(self.table[lot, self.seen(row, lot)]))


@lru_cache(maxsize=10000)
def least(works, desks, row):
    return least_of(Office(desks, works), row)


def large_book():
    return joined(machine_by(SIX, (2,) * 6, 2))


class MayTell(Case):
    def test_some(self):
        self.assertEqual(may_tell(C, (0, 2), (1,)), (0, 1))
        self.assertEqual(may_tell(C, (0, 2), (0,)), (1,))
        self.assertEqual(may_tell(C, (0, 2), ()), (0, 1))
        self.assertEqual(may_tell(C, (0, 2), (0, 1)), (1,))

    def test_no_desks_know_of_nothing(self):
        book = Book(F, (0, 1, 2, 9), ((1, 0, 0), (2, 1, 1), (2, 2, 2), (3, 3, 3)))
        for row in rows_to(F, 3):
            self.assertEqual(may_tell(book, row, ()), (0, 1, 2))

    def test_numbers_not_standings(self):
        book = Book(F, (7, 4), C.steps)
        self.assertEqual(may_tell(book, (0, 2), (1,)), (4, 7))
        self.assertEqual(sure(book, (0, 2), (0,)), 4)

    def test_all_desks_know_the_number(self):
        for book in even_books():
            everybody = tuple(range(book.office.desks))
            for seed in range(4):
                row = long_row(book.office, 20, seed)
                self.assertEqual(may_tell(book, row, everybody), (told(book, row),))

    def test_by_words(self):
        seen = set()
        for book in small_even_books():
            words = OfBook(book, 5 if len(book.office.works) > 1 else 6)
            for row in rows_to(book.office, 3):
                for lot in lots_of(book.office.desks):
                    numbers = may_tell(book, row, lot)
                    self.assertEqual(numbers, words.may_tell(row, lot))
                    self.assertEqual(sure(book, row, lot), numbers[0] if len(numbers) == 1 else None)
                    seen.add(len(numbers))
        self.assertEqual(seen, {1, 2})

    def test_alike_rows(self):
        for book in even_books():
            row = long_row(book.office, 6, 3)
            for other in list(reached(book.office, row))[:8]:
                for lot in lots_of(book.office.desks):
                    self.assertEqual(may_tell(book, other, lot), may_tell(book, row, lot))

    def test_what_is_told_may_be_told(self):
        for book in even_books() + [large_book()]:
            row = long_row(book.office, 40, 3)
            wider = None
            for lot in lots_of(book.office.desks):
                self.assertIn(told(book, row), may_tell(book, row, lot))
                wider = wider or may_tell(book, row, lot)
                self.assertLessEqual(set(may_tell(book, row, lot)), set(wider))


class Sure(Case):
    def test_some(self):
        self.assertEqual(sure(C, (0, 2), (0,)), 1)
        self.assertIs(sure(C, (0, 2), (1,)), None)
        self.assertEqual(sure(C, (), (0,)), 0)
        self.assertIs(sure(C, (), ()), None)
        self.assertEqual(sure(Book(F, (3,), ((0, 0, 0),)), (0, 2), ()), 3)

    def test_who_sure(self):
        self.assertEqual(who_sure(C, (0, 2)), (0,))
        self.assertEqual(who_sure(C, ()), (0,))
        self.assertEqual(who_sure(Book(F, (3,), ((0, 0, 0),)), (0,)), (0, 1))
        # Both count what they do alone: nobody is sure alone.
        both = Book(F, (0, 1, 2, 3), ((1, 2, 0), (0, 3, 1), (3, 0, 2), (2, 1, 3)))
        self.assertEqual(who_sure(both, (0, 2, 1)), ())
        self.assertEqual(fewest_sure(both, (0, 2, 1)), (0, 1))

    def test_fewest_sure(self):
        self.assertEqual(fewest_sure(C, (0, 2)), (0,))
        self.assertEqual(fewest_sure(Book(F, (3,), ((0, 0, 0),)), (0, 2)), ())
        # A book that never changes again: those are sure who know that it is so.
        once = Book(O, (0, 1), ((1, 0, 0), (1, 1, 1)))
        self.assertEqual(fewest_sure(once, (0,)), (0,))
        self.assertEqual(fewest_sure(once, (0, 1)), (0,))
        self.assertEqual(who_sure(once, (0,)), (0, 1))
        self.assertEqual(who_sure(once, (0, 1)), (0, 1, 2))
        self.assertEqual(who_sure(once, ()), (0, 1))

    def test_the_smallest_lots_are_ahead_of_lesser_ones(self):
        # Only desk 2 can change the number.
        book = Book(APART, (0, 1), ((0, 0, 1), (1, 1, 0)))
        self.assertEqual(fewest_sure(book, (0, 1, 2)), (2,))
        self.assertEqual(who_sure(book, (0, 1, 2)), (2,))
        # The desks 1 and 2 can.
        book = Book(APART, (0, 1), ((0, 1, 1), (1, 0, 0)))
        self.assertEqual(fewest_sure(book, (0, 1, 2)), (1, 2))
        self.assertEqual(who_sure(book, (0, 1, 2)), ())

    def test_by_words(self):
        seen = set()
        for book in small_even_books() + even_books():
            for seed in range(6):
                row = long_row(book.office, seed * 2, seed)
                lots = [lot for lot in lots_of(book.office.desks) if len(may_tell(book, row, lot)) == 1]
                least_lot = min(lots, key=lambda lot: (len(lot), lot))
                self.assertEqual(fewest_sure(book, row), least_lot)
                self.assertEqual(who_sure(book, row), tuple(lot[0] for lot in lots if len(lot) == 1))
                seen.add(least_lot)
        self.assertGreater(len(seen), 5)

    def test_six_desks(self):
        book = large_book()
        row = long_row(SIX, 30, 2)
        self.assertEqual(fewest_sure(book, row), min(
            (lot for lot in lots_of(6) if sure(book, row, lot) is not None), key=lambda lot: (len(lot), lot)
        ))


class ByNotes(Case):
    def test_some(self):
        self.assertEqual(may_tell_by(C, (1,), (note(C, (0, 2), 1),)), (0, 1))
        self.assertEqual(may_tell_by(C, (0,), (note(C, (0, 2), 0),)), (1,))
        self.assertEqual(may_tell_by(C, (), ()), (0, 1))
        self.assertEqual(may_tell_by(C, (0, 1), (blank_note(C),) * 2), (0,))

    def test_against_may_tell(self):
        for book in small_even_books() + even_books():
            for row in rows_to(book.office, 2) + [long_row(book.office, 60, 4), long_row(book.office, 59, 5)]:
                notes = [note(book, row, desk) for desk in range(book.office.desks)]
                for lot in lots_of(book.office.desks):
                    own = tuple(notes[desk] for desk in lot)
                    self.assertEqual(may_tell_by(book, lot, own), may_tell(book, row, lot))

    def test_six_desks(self):
        book = large_book()
        row = long_row(SIX, 60, 7)
        notes = [note(book, row, desk) for desk in range(6)]
        for lot in lots_of(6):
            self.assertEqual(may_tell_by(book, lot, tuple(notes[desk] for desk in lot)), may_tell(book, row, lot))


class Errors(Case):
    def test_not_even_is_ahead(self):
        self.assertFalse(is_even(doubled(C, 2)))
        for book in (W, doubled(C, 2)):
            for row in ((), None, (9,)):
                for lot in ((), None, (9,)):
                    self.raises(NotEven, may_tell, book, row, lot)
                    self.raises(NotEven, sure, book, row, lot)
                    self.raises(NotEven, may_tell_by, book, lot, row)
                self.raises(NotEven, who_sure, book, row)
                self.raises(NotEven, fewest_sure, book, row)

    def test_no_row(self):
        for thing in odd_things() + [(3,), (0, True), [0]]:
            if not (isinstance(thing, tuple) and all(type(part) is int and 0 <= part < 3 for part in thing)):
                for lot in ((0,), None, (2,)):
                    self.raises(NoRow, may_tell, C, thing, lot)
                    self.raises(NoRow, sure, C, thing, lot)
                self.raises(NoRow, who_sure, C, thing)
                self.raises(NoRow, fewest_sure, C, thing)

    def test_no_lot(self):
        for thing in odd_things() + [(2,), (1, 0), (0, 0), [0], 0, (False,)]:
            plain = type(thing) is tuple and all(type(part) is int for part in thing)
            if not plain or thing not in ((), (0,), (1,), (0, 1)):
                self.raises(NoLot, may_tell, C, (0, 2), thing)
                self.raises(NoLot, sure, C, (), thing)
                self.raises(NoLot, may_tell_by, C, thing, ())
                self.raises(NoLot, may_tell_by, C, thing, None)

    def test_no_notes(self):
        blank = blank_note(C)
        for thing in odd_things():
            self.raises(NoNotes, may_tell_by, C, (0,), thing)
            self.raises(NoNotes, may_tell_by, C, (0,), (thing,))
            self.raises(NoNotes, may_tell_by, C, (0, 1), (blank, thing))
        for lot, notes in (((), (blank,)), ((0,), ()), ((0,), (blank, blank)), ((1,), [blank]), ((1,), blank)):
            self.raises(NoNotes, may_tell_by, C, lot, notes)
        self.raises(NoNotes, may_tell_by, C, (0,), (blank_note(Book(ALONE, (0, 1), ((1,), (0,)))),))
        self.raises(NoNotes, may_tell_by, C, (0,), (blank_note(joined(machine_by(RING, (2,) * 4, 2))),))


if __name__ == "__main__":
    unittest.main()
