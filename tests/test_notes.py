"""Points 6.1 and 6.2: the notes of an even book, and what is told by notes alone."""

import copy
import unittest

from helper import (
    ALONE, APART, C, Case, F, O, RING, SIX, SIX_RING, SIX_STAR, STAR, W, doubled, even_books, long_row, lots_of,
    machine_by, news_in_words, odd_things, pasts, reached, rows_to, slip_in_words, labels_in_words, small_even_books,
    viewed, works_of
)
from latestword.books import Book, is_even, stood, told
from latestword.errors import NoDesk, NoLot, NoNotes, NoRow, NoWork, NotEven
from latestword.machines import joined
from latestword.notes import blank_note, change_by, note, stood_by, told_by, worked
from latestword.slips import blank_slip, slip


def change_in_words(book, row, events):
    found = []
    for standing in range(len(book.steps)):
        for event in sorted(events):
            standing = book.steps[standing][row[event]]
        found.append(standing)
    return tuple(found)


def turns_in_words(book, row, desk):
    office = book.office
    heard = news_in_words(office, row, desk)
    found = []
    for lot in lots_of(office.desks):
        events = viewed(office, row, (desk,))
        for other in lot:
            if heard[other] is not None:
                events = events - pasts(office, row)[heard[other]]
        found.append(change_in_words(book, row, events))
    return tuple(found)


def uneven_rows(office, length, seed):
    """A row in which a few works stand for long, and then others, so that news grow old."""
    kinds = long_row(office, length, seed)
    return tuple(kinds[at - at % 7] if at % 3 else kinds[at] for at in range(length))


def large_books():
    found = [joined(machine_by(office, (2,) * 6, seed)) for seed, office in ((2, SIX_RING), (4, SIX), (6, SIX_STAR))]
    return found + [joined(machine_by(RING, (2, 3, 2, 3), 2)), joined(machine_by(STAR, (3, 2, 2, 3), 8))]


class Led:
    """The notes of all desks, led on work by work."""

    def __init__(self, book):
        self.book = book
        self.notes = [blank_note(book)] * book.office.desks

    def of(self, lot):
        return tuple(self.notes[desk] for desk in lot)

    def work(self, work):
        desks = self.book.office.works[work]
        behind = worked(self.book, work, self.of(desks))
        for desk in desks:
            self.notes[desk] = behind


def led(book, row):
    found = Led(book)
    for work in row:
        found.work(work)
    return found


class Note(Case):
    def test_some(self):
        self.assertEqual(note(C, (0,), 0)[1], ((1, 0), (0, 1), (0, 1), (1, 0)))
        self.assertEqual(note(C, (0,), 0)[0], slip(F, (0,), 0))
        self.assertEqual(note(C, (0,), 1), blank_note(C))
        # The work 0 turns the standings about, the other ones leave them; its third event is
        # the only one that is not in the past of what desk 1 was last heard to do.
        self.assertEqual(note(C, (0, 0, 2, 0), 0)[1], ((1, 0), (0, 1), (0, 1), (1, 0)))
        self.assertEqual(note(C, (0, 2, 0), 0)[1], ((0, 1), (0, 1), (0, 1), (1, 0)))
        self.assertEqual(note(C, (0, 2, 0), 1)[1], ((1, 0), (0, 1), (0, 1), (0, 1)))

    def test_blank_note(self):
        self.assertEqual(blank_note(C), (blank_slip(F), ((0, 1),) * 4))
        for book in even_books():
            still = tuple(range(len(book.steps)))
            self.assertEqual(blank_note(book), (blank_slip(book.office), (still,) * 2 ** book.office.desks))
            for desk in range(book.office.desks):
                self.assertEqual(note(book, (), desk), blank_note(book))

    def test_by_words(self):
        for book in small_even_books():
            for row in rows_to(book.office, 4):
                given = labels_in_words(book.office, row)
                for desk in range(book.office.desks):
                    slip_here = slip_in_words(book.office, row, given, desk)
                    self.assertEqual(note(book, row, desk), (slip_here, turns_in_words(book, row, desk)))

    def test_long_rows_by_words(self):
        for seed, book in enumerate(even_books() + large_books()[:2]):
            row = long_row(book.office, 60, seed) if seed % 2 else uneven_rows(book.office, 60, seed)
            for desk in range(book.office.desks):
                self.assertEqual(note(book, row, desk), (slip(book.office, row, desk), turns_in_words(book, row, desk)))

    def test_lots_stand_ascending(self):
        # Each work adds to the standing: what it adds to 0 tells which events change it.
        adds = (1, 4, 2, 0)
        book = Book(RING, tuple(range(8)), tuple(tuple((k + add) % 8 for add in adds) for k in range(8)))
        # Desk 1 did the work 0 with desk 0, and hears of the work 2 of the desks 2 and 3 by its last work.
        told_of = {(): 7, (0,): 6, (3,): 5, (0, 3): 4}
        turns = note(book, (0, 2, 1), 1)[1]
        lots = [
            (), (0,), (0, 1), (0, 1, 2), (0, 1, 2, 3), (0, 1, 3), (0, 2), (0, 2, 3), (0, 3),
            (1,), (1, 2), (1, 2, 3), (1, 3), (2,), (2, 3), (3,),
        ]
        self.assertEqual([change[0] for change in turns], [told_of.get(lot, 0) for lot in lots])
        self.assertEqual([change[5] for change in turns], [(told_of.get(lot, 0) + 5) % 8 for lot in lots])

    def test_alike_rows_have_the_same_notes(self):
        for book in even_books():
            for seed in range(5):
                row = long_row(book.office, 6, seed)
                for other in list(reached(book.office, row))[:10]:
                    for desk in range(book.office.desks):
                        self.assertEqual(note(book, other, desk), note(book, row, desk))


class Worked(Case):
    def test_some(self):
        blank = blank_note(C)
        self.assertEqual(worked(C, 0, (blank,)), note(C, (0,), 0))
        self.assertEqual(worked(C, 2, (note(C, (0,), 0), blank)), note(C, (0, 2), 1))
        self.assertEqual(worked(C, 2, (note(C, (0,), 0), blank))[1], ((1, 0), (0, 1), (0, 1), (0, 1)))

    def test_all_short_rows(self):
        for book in small_even_books():
            for row in rows_to(book.office, 5):
                last = led(book, row)
                for desk in range(book.office.desks):
                    self.assertEqual(last.notes[desk], note(book, row, desk))

    def test_short_rows_of_four_desks(self):
        for book in even_books():
            if book.office.desks == 4:
                for row in rows_to(book.office, 4)[::3]:
                    last = led(book, row)
                    self.assertEqual(last.notes, [note(book, row, desk) for desk in range(4)])

    def test_long_rows(self):
        for seed, book in enumerate(even_books() + large_books()):
            for shape in (long_row, uneven_rows):
                row = shape(book.office, 60, seed + 3)
                going = Led(book)
                for at, work in enumerate(row):
                    going.work(work)
                    if at % 20 == 19:
                        for desk in range(book.office.desks):
                            self.assertEqual(going.notes[desk], note(book, row[:at + 1], desk))

    def test_each_desk_of_the_work_has_one_note(self):
        book = joined(machine_by(SIX, (2,) * 6, 2))
        row = long_row(SIX, 20, 5)
        last = led(book, row)
        for desk in SIX.works[row[-1]]:
            self.assertEqual(last.notes[desk], note(book, row, desk))


class Told(Case):
    def test_some(self):
        last = led(C, (0, 2))
        self.assertEqual(change_by(C, (), ()), (0, 1))
        self.assertEqual(change_by(C, (1,), last.of((1,))), (1, 0))
        self.assertEqual(stood_by(C, last.of((0, 1))), 1)
        self.assertEqual(told_by(C, last.of((0, 1))), 1)

    def test_the_number_told_is_no_standing(self):
        book = Book(F, (7, 4), C.steps)
        for row, number in (((), 7), ((0,), 4), ((0, 0), 7)):
            self.assertEqual(told_by(book, led(book, row).of((0, 1))), number)
        self.assertEqual(stood_by(book, led(book, (0,)).of((0, 1))), 1)

    def test_all_short_rows(self):
        for book in small_even_books():
            for row in rows_to(book.office, 5):
                self.compare(book, row, led(book, row))

    def test_long_rows(self):
        for seed, book in enumerate(even_books() + large_books()):
            for shape in (long_row, uneven_rows):
                row = shape(book.office, 60, seed + 11)
                self.compare(book, row, led(book, row))

    def compare(self, book, row, last):
        office = book.office
        everybody = tuple(range(office.desks))
        self.assertEqual(stood_by(book, last.of(everybody)), stood(book, row))
        self.assertEqual(told_by(book, last.of(everybody)), told(book, row))
        for lot in lots_of(office.desks):
            change = change_in_words(book, row, viewed(office, row, lot))
            self.assertEqual(change_by(book, lot, last.of(lot)), change)

    def test_notes_of_whole_rows(self):
        for book in large_books()[:2]:
            row = long_row(book.office, 60, 9)
            notes = tuple(note(book, row, desk) for desk in range(6))
            self.assertEqual(stood_by(book, notes), stood(book, row))
            self.assertEqual(change_by(book, (1, 4), (notes[1], notes[4])),
                             change_in_words(book, row, viewed(book.office, row, (1, 4))))


def wrong_notes():
    """Things that are no note of the book C: most of them with one thing wrong."""
    held = note(C, (0, 2, 1), 0)
    known, turns = held
    found = [
        (known,), (known, turns, turns), (turns, known), [known, turns], (known, list(turns)), (known, turns[1:]),
        (known, turns + ((0, 1),)), (list(known), turns), (known[:2], turns), (known + ((),), turns), (), None,
        ((known[0], known[1], list(known[2])), turns), (known, None), (None, turns), known, turns, {}, "01",
    ]
    for change in ((0,), (0, 1, 0), [0, 1], (0, 2), (-1, 0), (0, True), (False, 1), (0, None), (), None, 0, "01", ("0", "1")):
        found.append((known, turns[:2] + (change,) + turns[3:]))
    for name in ((3, 0), (0, -1), (-1, 0), (True, 0), (0, True), (0,), (0, 0, 0), [0, 0], 0, "00", ()):
        found.append((((name, None),) + known[1:], turns))
        found.append(((known[0], ((None, None), (name, None)), known[2]), turns))
        found.append(((known[0], known[1], known[2][:1] + (((None, None), (None, name)),)), turns))
    return found


class Errors(Case):
    def test_not_even_is_ahead(self):
        for book in (W, doubled(C, 2)):
            self.assertFalse(is_even(book))
            for row in ((), None, (9,)):
                for desk in (0, 9, None):
                    self.raises(NotEven, note, book, row, desk)
            self.raises(NotEven, blank_note, book)
            for thing in (0, None, 9):
                self.raises(NotEven, worked, book, thing, None)
                self.raises(NotEven, change_by, book, thing, None)
                self.raises(NotEven, stood_by, book, thing)
                self.raises(NotEven, told_by, book, thing)

    def test_note(self):
        for thing in odd_things() + [(3,), [0], (0, True)]:
            if not (isinstance(thing, tuple) and all(type(part) is int and 0 <= part < 3 for part in thing)):
                self.raises(NoRow, note, C, thing, 0)
                self.raises(NoRow, note, C, thing, 9)
            if not (type(thing) is int and thing in (0, 1)):
                self.raises(NoDesk, note, C, (0, 2), thing)
                self.raises(NoRow, note, C, (0, 3), thing)

    def test_worked(self):
        blank = blank_note(C)
        for thing in odd_things():
            if not (type(thing) is int and thing in (0, 1, 2)):
                self.raises(NoWork, worked, C, thing, (blank,))
                self.raises(NoWork, worked, C, thing, None)
            self.raises(NoNotes, worked, C, 0, thing)
            self.raises(NoNotes, worked, C, 0, (thing,))
            self.raises(NoNotes, worked, C, 2, (blank, thing))
            self.raises(NoNotes, worked, C, 2, (thing, blank))
        for notes in ((), (blank, blank), [blank], {0: blank}, blank, None):
            self.raises(NoNotes, worked, C, 0, notes)
        for notes in ((), (blank,), (blank,) * 3, [blank, blank]):
            self.raises(NoNotes, worked, C, 2, notes)

    def test_one_thing_wrong(self):
        blank = blank_note(C)
        for thing in wrong_notes():
            self.raises(NoNotes, worked, C, 0, (thing,))
            self.raises(NoNotes, worked, C, 2, (blank, thing))
            self.raises(NoNotes, change_by, C, (1,), (thing,))
            self.raises(NoNotes, change_by, C, (0, 1), (blank, thing))
            self.raises(NoNotes, stood_by, C, (thing, blank))
            self.raises(NoNotes, told_by, C, (blank, thing))

    def test_notes_of_another_book(self):
        for book in (Book(F, (0,), ((0, 0, 0),)), Book(F, (0, 1, 2), ((1, 1, 1), (2, 2, 2), (2, 2, 2)))):
            self.raises(NoNotes, stood_by, C, (blank_note(book),) * 2)
        self.raises(NoNotes, stood_by, C, (blank_note(joined(machine_by(APART, (1, 1, 2), 2))),) * 2)
        self.raises(NoNotes, worked, C, 0, (blank_note(Book(ALONE, (0, 1), ((0,), (1,)))),))

    def test_change_by(self):
        blank = blank_note(C)
        for thing in odd_things() + [(2,), [0], (1, 0), (0, 0), (False,), (-1,)]:
            plain = type(thing) is tuple and all(type(part) is int for part in thing)
            if not plain or thing not in ((), (0,), (1,), (0, 1)):
                self.raises(NoLot, change_by, C, thing, (blank,))
                self.raises(NoLot, change_by, C, thing, None)
            self.raises(NoNotes, change_by, C, (0,), thing)
            self.raises(NoNotes, change_by, C, (0,), (thing,))
            if thing != ():
                self.raises(NoNotes, change_by, C, (), thing)
        for lot, notes in (((), (blank,)), ((0,), ()), ((0,), (blank,) * 2), ((0, 1), (blank,)), ((0,), [blank])):
            self.raises(NoNotes, change_by, C, lot, notes)

    def test_stood_by_and_told_by(self):
        blank = blank_note(C)
        for function in (stood_by, told_by):
            for thing in odd_things() + [(blank,), (blank,) * 3, [blank, blank]]:
                self.raises(NoNotes, function, C, thing)
                self.raises(NoNotes, function, C, (blank, thing))
            self.raises(NoNotes, function, C, blank)

    def test_notes_of_no_row_raise_nothing(self):
        """Notes with the right form that fit nowhere together."""
        names = [None, (0, 0), (1, 3), (2, 10 ** 39), (2, 0)]
        for at in range(60):
            name = names[at % 5], names[at // 5 % 5]
            known = (name, (name, name[::-1]), ((name[::-1], name), (name, name)))
            held = (known, (((1, 0), (0, 0), (1, 1), (0, 1))[at % 4],) * 4)
            for other in (held, blank_note(C), note(C, (0, 2, 1, 0, 2, 0), 0)):
                self.assertEqual(len(worked(C, 2, (held, other))[1]), 4)
                self.assertIn(stood_by(C, (other, held)), (0, 1))


class Kept(Case):
    def test_arguments_stay_as_they_were(self):
        notes = led(C, (0, 2, 1, 1)).of((0, 1))
        kept = copy.deepcopy(notes)
        worked(C, 2, notes)
        change_by(C, (0, 1), notes)
        told_by(C, notes)
        self.assertEqual(notes, kept)

    def test_there_are_finitely_many(self):
        """In the end no note is new."""
        found = set()
        edge = {(blank_note(C),) * 2}
        while edge:
            found |= edge
            beyond = set()
            for notes in edge:
                for work in works_of(F):
                    desks = F.works[work]
                    behind = worked(C, work, tuple(notes[desk] for desk in desks))
                    beyond.add(tuple(behind if desk in desks else held for desk, held in enumerate(notes)))
            edge = beyond - found
        self.assertGreater(len(found), 10)
        self.assertTrue({told_by(C, notes) for notes in found} == {0, 1})


if __name__ == "__main__":
    unittest.main()
