"""Point 8.1: workers who keep notes, and tellers who tell of them."""

import unittest
from itertools import product

from helper import (
    ALONE, APART, C, Case, F, O, RING, SIX, W, book_by, first_row, machine_by, mixed_books, odd_things, rows_to,
    small_even_books
)
from latestword.books import Book, told
from latestword.errors import BadWorker, NoMany
from latestword.hands import judged
from latestword.machines import joined, wrong_row
from latestword.notes import blank_note, told_by, worked


class Odd(Exception):
    pass


def by_notes(book):
    """The worker and the teller who keep the notes of an even book."""
    def whole(notes):
        return tuple(blank_note(book) if held is None else held for held in notes)

    def worker(work, notes):
        return (worked(book, work, whole(notes)),) * len(notes)

    def teller(notes):
        return told_by(book, whole(notes))

    return worker, teller


def by_machine(machine):
    def whole(notes):
        return tuple(0 if held is None else held for held in notes)

    def worker(work, notes):
        return machine.moves[work][whole(notes)]

    def teller(notes):
        return machine.tells[whole(notes)]

    return worker, teller


def history(work, notes):
    """What a desk has seen: its view, as a tree."""
    return ((work, notes),) * len(notes)


def by_history(office, answers, usual):
    """A worker who keeps all, and a teller who is right, but for the rows with some notes."""
    special = {notes_after(office, history, row): answer for row, answer in answers.items()}
    return history, lambda notes: special[notes] if notes in special else usual(notes)


def notes_after(office, worker, row):
    notes = [None] * office.desks
    for work in row:
        desks = office.works[work]
        for desk, behind in zip(desks, worker(work, tuple(notes[desk] for desk in desks))):
            notes[desk] = behind
    return tuple(notes)


def judged_in_words(book, worker, teller, many):
    """The row, or the row of the BadWorker that is due."""
    office = book.office
    paths = [((), (None,) * office.desks)]
    for length in range(many + 1):
        beyond = []
        for row, notes in paths:
            answer = teller(notes)
            if type(answer) is not int or answer != told(book, row):
                return "wrong", row
            beyond += [(row, notes, work) for work in range(len(office.works))]
        paths = []
        for row, notes, work in beyond if length < many else []:
            desks = office.works[work]
            behind = worker(work, tuple(notes[desk] for desk in desks))
            if not isinstance(behind, tuple) or len(behind) != len(desks):
                # Of one length, rows that are wrong are looked for up to this one only.
                for other, held in paths:
                    answer = teller(held)
                    if type(answer) is not int or answer != told(book, other):
                        return "wrong", other
                return "bad", row + (work,)
            changed = dict(zip(desks, behind))
            paths.append((row + (work,), tuple(changed.get(desk, held) for desk, held in enumerate(notes))))
    return None


def answered(book, worker, teller, many):
    try:
        row = judged(book, worker, teller, many)
    except BadWorker as error:
        return "bad", error.row
    return None if row is None else ("wrong", row)


class Asked:
    """A worker and a teller who keep what they are asked."""

    def __init__(self, worker, teller):
        self.own_worker, self.own_teller = worker, teller
        self.works, self.tellings = [], []

    def worker(self, work, notes):
        self.works.append((work, notes))
        return self.own_worker(work, notes)

    def teller(self, notes):
        self.tellings.append(notes)
        return self.own_teller(notes)


class Right(Case):
    def test_by_notes(self):
        for book in small_even_books():
            worker, teller = by_notes(book)
            self.assertIs(judged(book, worker, teller, 4), None)

    def test_by_notes_for_another_book(self):
        found = set()
        for one, other in product(small_even_books(), repeat=2):
            if one.office == other.office:
                row = first_row(one.office, 4, lambda row: told(one, row) != told(other, row))
                self.assertEqual(judged(one, *by_notes(other), 4), row)
                found.add(row)
        self.assertGreater(len(found), 3)

    def test_by_machine(self):
        for office, many in ((F, (2, 3)), (O, (2, 2, 2)), (RING, (2, 2, 2, 2)), (APART, (2, 2, 2)), (ALONE, (6,))):
            for seed in range(1, 4):
                machine = machine_by(office, many, seed, 3)
                self.assertIs(judged(joined(machine), *by_machine(machine), 4), None)
                book = book_by(office, 3, seed)
                row = wrong_row(book, machine)
                self.assertEqual(judged(book, *by_machine(machine), 6), row)
                self.assertLess(len(row), 7)

    def test_up_to_six(self):
        for book in (C, Book(F, (5, 6), C.steps)):
            for many in range(7):
                self.assertIs(judged(book, *by_notes(book), many), None)

    def test_nothing_to_tell(self):
        flat = Book(F, (3,), ((0, 0, 0),))
        self.assertIs(judged(flat, lambda work, notes: notes, lambda notes: 3, 6), None)
        self.assertIs(judged(flat, lambda work, notes: notes, lambda notes: 3, 0), None)

    def test_notes_of_any_kind(self):
        for thing in odd_things():
            flat = Book(F, (3,), ((0, 0, 0),))
            self.assertIs(judged(flat, lambda work, notes: (thing,) * len(notes), lambda notes: 3, 3), None)

    def test_many_works(self):
        machine = machine_by(SIX, (2,) * 6, 2)
        self.assertIs(judged(joined(machine), *by_machine(machine), 3), None)


class Wrong(Case):
    def test_at_the_empty_row(self):
        for many in range(7):
            self.assertEqual(judged(C, history, lambda notes: 1, many), ())
            self.assertEqual(judged(C, lambda work, notes: None, lambda notes: 1, many), ())

    def test_at_the_last_row(self):
        for many in range(4):
            last = (2,) * many
            worker, teller = by_history(F, {last: 1}, by_history_of(C))
            self.assertEqual(judged(C, worker, teller, many), last)
            if many:
                self.assertIs(judged(C, worker, teller, many - 1), None)

    def test_behind_a_long_row(self):
        row = (2, 1, 2, 0, 2, 2)
        worker, teller = by_history(F, {row: 5}, by_history_of(C))
        self.assertEqual(judged(C, worker, teller, 6), row)
        self.assertIs(judged(C, worker, teller, 5), None)

    def test_the_least_of_alike_rows(self):
        worker, teller = by_history(F, {(1, 0): 5, (1, 2): 7}, by_history_of(C))
        self.assertEqual(judged(C, worker, teller, 3), (0, 1))

    def test_no_integer(self):
        for thing in odd_things():
            if type(thing) is not int:
                worker, teller = by_history(F, {(2, 0): thing}, by_history_of(C))
                self.assertEqual(judged(C, worker, teller, 3), (2, 0))
        for thing in (True, None, "1", (1,), [1], b"1", 1.0, 1 + 0j, {1}, -1, 10 ** 39, 2):
            worker, teller = by_history(F, {(0, 2): thing}, by_history_of(C))
            self.assertEqual(judged(C, worker, teller, 3), (0, 2))
        self.assertEqual(judged(C, history, lambda notes: False, 3), ())

    def test_none_is_right_for_a_book_that_cannot_be_shared_out(self):
        # Alike rows have the same notes: one of them is wrong.
        worker, teller = by_history(F, {}, by_history_of(W))
        self.assertIn(judged(W, worker, teller, 3), ((0, 1), (1, 0)))
        for answer, row in ((1, (1, 0)), (2, (0, 1)), (0, (0, 1))):
            worker, teller = by_history(F, {(0, 1): answer}, by_history_of(W))
            self.assertEqual(judged(W, worker, teller, 3), row)

    def test_tellers_in_words(self):
        found = set()
        for seed, book in enumerate(mixed_books()):
            for wrong in (("wrong", (1, 0)), ("wrong", (0, 0)), ("wrong", ())):
                row = tuple(work % len(book.office.works) for work in wrong[1])
                worker, teller = by_history(book.office, {row: seed % 3}, by_history_of(book))
                answer = answered(book, worker, teller, 3)
                self.assertEqual(answer, judged_in_words(book, worker, teller, 3))
                found.add(answer)
        self.assertGreater(len(found), 5)


def by_history_of(book):
    """What the book tells behind a row that has these notes, of those up to six works."""
    table = {}
    for row in rows_to(book.office, 6 if book is C else 3):
        table.setdefault(notes_after(book.office, history, row), told(book, row))
    return lambda notes: table[notes]


class Bad(Case):
    def bad(self, row, book, worker, teller, many):
        with self.assertRaises(BadWorker) as caught:
            judged(book, worker, teller, many)
        self.assertIs(type(caught.exception), BadWorker)
        self.assertEqual(caught.exception.row, row)

    def test_no_tuple_of_notes(self):
        wrong = [thing for thing in odd_things() if not (isinstance(thing, tuple) and len(thing) == 1)]
        for thing in wrong + [(1, 2), [1], (), "1", {0: 1}, None]:
            flat = Book(F, (3,), ((0, 0, 0),))
            self.bad((1,), flat, lambda work, notes: thing if work == 1 else notes, lambda notes: 3, 2)
        for thing in ((1,), (1, 2, 3), [1, 2], (), None, "12", {0: 1, 1: 2}):
            flat = Book(F, (3,), ((0, 0, 0),))
            self.bad((2,), flat, lambda work, notes: thing if work == 2 else notes, lambda notes: 3, 2)

    def test_the_least_of_the_shortest_rows(self):
        flat = Book(F, (3,), ((0, 0, 0),))
        bad = [history(2, (None, None))[0], history(1, (None,))[0]]

        def worker(work, notes):
            return None if work == 0 and notes[0] in bad or work == 1 and notes == (bad[1],) else history(work, notes)

        # The worker is bad behind (1, 1) and (2, 0).
        self.bad((1, 1), flat, worker, lambda notes: 3, 4)
        bad.pop()
        bad.append(None)
        self.bad((0,), flat, worker, lambda notes: 3, 4)

    def test_not_for_longer_rows(self):
        flat = Book(F, (3,), ((0, 0, 0),))

        def worker(work, notes):
            return history(work, notes) if notes[0] is None else None

        self.assertIs(judged(flat, worker, lambda notes: 3, 1), None)
        self.assertIs(judged(flat, worker, lambda notes: 3, 0), None)
        self.bad((0, 0), flat, worker, lambda notes: 3, 2)

    def test_which_of_both_comes_first(self):
        flat = Book(F, (3,), ((0, 0, 0),))
        for bad, wrong, answer in (
            (0, (1,), ("bad", (0,))), (1, (0,), ("wrong", (0,))), (2, (1,), ("wrong", (1,))), (2, (0, 0), ("bad", (2,))),
            (2, (2,), ("bad", (2,))), (0, (0,), ("bad", (0,))), (0, (), ("wrong", ())), (1, (2,), ("bad", (1,))),
        ):
            def worker(work, notes):
                return None if work == bad else history(work, notes)

            where = notes_after(F, history, wrong)

            def teller(notes):
                return 4 if notes == where else 3

            self.assertEqual(answered(flat, worker, teller, 4), answer)

    def test_by_words(self):
        found = set()
        for seed, book in enumerate(mixed_books()):
            usual = by_history_of(book)
            works = len(book.office.works)
            for depth in (0, 1, 2):
                def worker(work, notes):
                    deep = notes[0]
                    for _ in range(depth):
                        deep = deep[1][-1] if deep else 0
                    return () if deep is None and work == seed % works else history(work, notes)

                answer = answered(book, worker, usual, 3)
                self.assertEqual(answer, judged_in_words(book, worker, usual, 3))
                found.add(answer and (answer[0], len(answer[1])))
        self.assertLessEqual({("bad", 1), ("bad", 2), ("bad", 3)}, found)


class Asking(Case):
    def test_what_is_asked(self):
        flat = Book(F, (3,), ((0, 0, 0),))
        asked = Asked(history, lambda notes: 3)
        self.assertIs(judged(flat, asked.worker, asked.teller, 2), None)
        self.assertEqual(asked.tellings[0], (None, None))
        self.assertIn((2, (None, None)), asked.works)
        self.assertIn((0, (None,)), asked.works)
        self.assertIn((2, ((0, (None,)), None)), asked.works)
        for work, notes in asked.works:
            self.assertIs(type(notes), tuple)
            self.assertEqual(len(notes), len(F.works[work]))
        for notes in asked.tellings:
            self.assertIs(type(notes), tuple)
            self.assertEqual(len(notes), 2)

    def test_nothing_longer_is_asked(self):
        flat = Book(F, (3,), ((0, 0, 0),))
        for many in range(4):
            asked = Asked(history, lambda notes: 3)
            judged(flat, asked.worker, asked.teller, many)
            rows = {notes_after(F, history, row): row for row in rows_to(F, many)}
            self.assertEqual(set(asked.tellings), set(rows))
            calls = {(row[-1], tuple(notes_after(F, history, row[:-1])[desk] for desk in F.works[row[-1]]))
                     for row in rows_to(F, many) if row}
            self.assertEqual(set(asked.works), calls)

    def test_nothing_that_goes_on_from_a_wrong_row(self):
        for row in rows_to(F, 2):
            worker, teller = by_history(F, {row: 9}, by_history_of(C))
            asked = Asked(worker, teller)
            least = judged(C, asked.worker, asked.teller, 4)
            self.assertEqual(len(least), len(row))
            wrong = notes_after(F, history, row)
            self.assertEqual(asked.tellings.count(wrong), 1)
            # Rows that go on from it are longer: none of these is asked for.
            longer = {notes_after(F, history, other) for other in rows_to(F, 4) if len(other) > len(row)}
            self.assertFalse(set(asked.tellings) & longer)

    def test_nothing_that_goes_on_from_a_bad_row(self):
        flat = Book(F, (3,), ((0, 0, 0),))
        asked = Asked(lambda work, notes: [] if work == 1 else history(work, notes), lambda notes: 3)
        self.raises(BadWorker, judged, flat, asked.worker, asked.teller, 4)
        self.assertTrue(all(held is None for _, notes in asked.works for held in notes))

    def test_errors_go_on(self):
        def raising(*_):
            raise Odd()

        flat = Book(F, (3,), ((0, 0, 0),))
        self.raises(Odd, judged, flat, raising, lambda notes: 3, 1)
        self.raises(Odd, judged, flat, history, raising, 0)
        self.assertEqual(judged(flat, raising, lambda notes: 2, 3), ())
        self.assertIs(judged(flat, raising, lambda notes: 3, 0), None)
        # The row (0,) is wrong already: what would raise behind it is not asked.
        self.assertEqual(judged(flat, lambda work, notes: history(work, notes) if work == 0 else raising(),
                                lambda notes: 3 if notes == (None, None) else 2, 3), (0,))

    def test_errors_of_ours_go_on_too(self):
        def raising(*_):
            raise BadWorker(("own",))

        with self.assertRaises(BadWorker) as caught:
            judged(C, raising, lambda notes: 0, 3)
        self.assertEqual(caught.exception.row, ("own",))


class Errors(Case):
    def test_no_many(self):
        def never(*_):
            raise Odd()

        for many in odd_things() + [7, -1, True, False, None, "3", 10 ** 39]:
            if not (type(many) is int and 0 <= many <= 6):
                self.raises(NoMany, judged, C, never, never, many)
        for many in range(7):
            self.raises(Odd, judged, C, never, never, many)


if __name__ == "__main__":
    unittest.main()
