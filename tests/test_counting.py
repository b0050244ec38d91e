"""Point 11.1: rows counted and numbered up to exchange."""

from itertools import combinations

import unittest

from helper import (
    ALONE, APART, C, Case, F, IDLE, LARGE, O, RING, SIX, SMALL, STAR, W, doubled, even_books, least_of, long_row,
    machine_by, meeting, odd_things, rows_of, small_even_books, works_of
)
from latestword.books import Book, is_even, told
from latestword.counting import apart_lots, many_rows, many_told, row_at, row_number
from latestword.errors import NoLength, NoNumber, NoRow, NotEven
from latestword.leasts import least_book
from latestword.machines import joined
from latestword.offices import Office
from latestword.rows import alike, least_row

TEN = Office(6, ((0,), (1,), (2,), (3,), (4,), (5,), (0, 1), (2, 3), (4, 5), (0, 5)))
FALLING = Office(6, ((4, 5), (5,), (2, 3), (4,), (0, 1), (3,), (2,), (1,), (0,), (1, 4)))
SOME = SMALL + LARGE + [TEN, FALLING, Office(6, ((0,),) * 10), Office(1, ((0,),) * 10)]


def least_rows(office, length):
    """All least rows of a length, ascending."""
    return sorted({least_of(office, row) for row in rows_of(office, length)})


def lots_apart_in_words(office):
    found = []
    for size in range(len(office.works) + 1):
        lots = [lot for lot in combinations(works_of(office), size)
                if not any(meeting(office, one, other) for one, other in combinations(lot, 2))]
        found.append(len(lots))
    return tuple(many for many in found if many)


def rows_by_the_fact(office, most):
    lots = lots_apart_in_words(office)
    found = []
    for n in range(most + 1):
        found.append(1 if n == 0 else sum(
            (-1) ** (k + 1) * lots[k] * found[n - k] for k in range(1, len(lots)) if k <= n))
    return found


class ApartLots(Case):
    def test_some(self):
        self.assertEqual(apart_lots(F), (1, 3, 1))
        self.assertEqual(apart_lots(O), (1, 3))
        self.assertEqual(apart_lots(APART), (1, 3, 3, 1))
        self.assertEqual(apart_lots(ALONE), (1, 1))
        self.assertEqual(apart_lots(RING), (1, 4, 2))

    def test_all_lots(self):
        for office in SOME:
            self.assertEqual(apart_lots(office), lots_apart_in_words(office))

    def test_six_desks_alone(self):
        self.assertEqual(apart_lots(Office(6, tuple((desk,) for desk in range(6)))), (1, 6, 15, 20, 15, 6, 1))


class ManyRows(Case):
    def test_some(self):
        self.assertEqual([many_rows(F, length) for length in range(4)], [1, 3, 8, 21])
        self.assertEqual([many_rows(O, length) for length in range(4)], [1, 3, 9, 27])
        self.assertEqual([many_rows(ALONE, length) for length in (0, 1, 60)], [1, 1, 1])
        self.assertEqual(many_rows(Office(6, tuple((desk,) for desk in range(6))), 2), 21)

    def test_all_rows(self):
        for office in SMALL:
            for length in range(5):
                self.assertEqual(many_rows(office, length), len(least_rows(office, length)))
        for office in (SIX, TEN, FALLING):
            for length in range(4):
                self.assertEqual(many_rows(office, length), len(least_rows(office, length)))

    def test_by_the_eighth_fact(self):
        for office in SOME:
            self.assertEqual([many_rows(office, length) for length in range(61)], rows_by_the_fact(office, 60))

    def test_no_length(self):
        for thing in odd_things() + [61, -1, True, False, "3", (3,)]:
            if not (type(thing) is int and 0 <= thing <= 60):
                self.raises(NoLength, many_rows, F, thing)
        self.assertEqual(many_rows(F, 0), 1)
        self.assertGreater(many_rows(F, 60), 10 ** 20)


class RowAt(Case):
    def test_some(self):
        self.assertEqual(row_at(F, 2, 1), (0, 1))
        self.assertEqual([row_at(F, 2, number) for number in range(8)],
                         [(0, 0), (0, 1), (0, 2), (1, 1), (1, 2), (2, 0), (2, 1), (2, 2)])
        self.assertEqual(row_at(F, 0, 0), ())

    def test_all_rows(self):
        for office in SMALL + [SIX, TEN, FALLING]:
            for length in range(5 if office in SMALL else 4):
                rows = least_rows(office, length)
                self.assertEqual([row_at(office, length, number) for number in range(len(rows))], rows)
                self.raises(NoNumber, row_at, office, length, len(rows))
                for row in rows:
                    self.assertEqual(row_at(office, length, row_number(office, row)), row)

    def test_long_rows(self):
        for office in SOME:
            many = many_rows(office, 60)
            numbers = sorted({0, many // 3, many // 2, many // 7, many - 1})
            rows = [row_at(office, 60, number) for number in numbers]
            self.assertEqual(rows, sorted(rows))
            self.assertEqual(rows[0], (0,) * 60)
            for number, row in zip(numbers, rows):
                self.assertEqual(len(row), 60)
                self.assertEqual(least_row(office, row), row)
                self.assertEqual(row_number(office, row), number)
            self.raises(NoNumber, row_at, office, 60, many)

    def test_errors(self):
        for thing in odd_things() + [61, -1]:
            if not (type(thing) is int and 0 <= thing <= 60):
                self.raises(NoLength, row_at, F, thing, 0)
                self.raises(NoLength, row_at, F, thing, None)
            if not (type(thing) is int and 0 <= thing < 8):
                self.raises(NoNumber, row_at, F, 2, thing)
        self.raises(NoNumber, row_at, F, 0, 1)
        self.raises(NoNumber, row_at, F, 0, False)
        self.raises(NoNumber, row_at, F, 2, 8)
        self.raises(NoNumber, row_at, F, 2, -1)


class RowNumber(Case):
    def test_some(self):
        self.assertEqual([row_number(F, row) for row in ((), (0,), (1, 0), (0, 1), (2, 2))], [0, 0, 1, 1, 7])

    def test_rows_that_are_not_least(self):
        for office in SMALL:
            for length in range(5):
                rows = least_rows(office, length)
                for row in rows_of(office, length):
                    self.assertEqual(row_number(office, row), rows.index(least_of(office, row)))

    def test_long_rows(self):
        for seed, office in enumerate(SOME):
            row = long_row(office, 60, seed)
            number = row_number(office, row)
            self.assertEqual(row_at(office, 60, number), least_row(office, row))
            self.assertTrue(alike(office, row_at(office, 60, number), row))

    def test_rows_of_any_length_that_were_returned(self):
        self.assertEqual(row_number(ALONE, (0,) * 300), 0)
        self.assertEqual(row_number(O, (2,) * 100), 3 ** 100 - 1)
        self.assertEqual(row_number(O, (0,) * 99 + (2,)), 2)

    def test_no_row(self):
        for thing in odd_things() + [(3,), [0], (0, True)]:
            if not (isinstance(thing, tuple) and all(type(part) is int and 0 <= part < 3 for part in thing)):
                self.raises(NoRow, row_number, F, thing)


class ManyTold(Case):
    def test_some(self):
        self.assertEqual(many_told(C, 0), (1,) + (0,) * 9)
        self.assertEqual(many_told(C, 1), (2, 1) + (0,) * 8)
        self.assertEqual(many_told(C, 2), (5, 3) + (0,) * 8)
        self.assertEqual(many_told(Book(F, (9,), ((0, 0, 0),)), 2), (0,) * 9 + (8,))

    def test_all_rows(self):
        for book in small_even_books() + [book for book in even_books() if len(book.steps) < 10]:
            for length in range(5):
                found = [0] * 10
                for row in least_rows(book.office, length):
                    found[told(book, row)] += 1
                self.assertEqual(many_told(book, length), tuple(found))

    def test_its_sum(self):
        for book in even_books() + small_even_books():
            for length in (0, 1, 7, 59, 60):
                found = many_told(book, length)
                self.assertEqual((len(found), sum(found)), (10, many_rows(book.office, length)))
                self.assertTrue(all(number >= 0 for number in found))
                self.assertEqual(found, many_told(least_book(book), length))

    def test_books_with_many_standings(self):
        seen = 0
        for office, many in ((SIX, (2,) * 6), (STAR, (3, 2, 3, 3)), (IDLE, (3, 4, 5)), (TEN, (2, 3, 1, 2, 3, 2))):
            book = joined(machine_by(office, many, 4))
            seen = max(seen, len(book.steps))
            found = [0] * 10
            for row in least_rows(office, 3):
                found[told(book, row)] += 1
            self.assertEqual(many_told(book, 3), tuple(found))
            self.assertEqual(sum(many_told(book, 60)), many_rows(office, 60))
        self.assertGreater(seen, 12)

    def test_errors(self):
        for thing in odd_things() + [61, -1]:
            for book in (W, doubled(C, 2)):
                self.assertFalse(is_even(book))
                self.raises(NotEven, many_told, book, thing)
            if not (type(thing) is int and 0 <= thing <= 60):
                self.raises(NoLength, many_told, C, thing)
        self.raises(NotEven, many_told, W, 3)


if __name__ == "__main__":
    unittest.main()
