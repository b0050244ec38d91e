"""Points 5.2 and 5.3: least books, books that tell the same, shareable ones and torn rows."""

from itertools import product
import unittest

from helper import (
    ALONE, ALONE_TWICE, APART, C, Case, F, IDLE, O, SIX, W, book_by, doubled, even_books, first_row, machine_by,
    meeting, mixed_books, reached, rows_to, shareable_in_words, small_even_books, tells_from, works_of
)
from latestword.books import Book, is_even, told
from latestword.errors import NoMatch
from latestword.leasts import is_shareable, least_book, may_be_apart, parting_row, same, torn
from latestword.machines import joined
from latestword.offices import Office


def least_in_words(book):
    """Its telling and steps: the kinds of standings in the order of the rows that lead to them."""
    most = len(book.steps)
    kinds = []
    ways = {}
    for row in rows_to(book.office, most):
        here = 0
        for work in row:
            here = book.steps[here][work]
        kind = tells_from(book, here, most - 1)
        if kind not in kinds:
            kinds.append(kind)
            ways[kind] = here
    telling = tuple(book.telling[ways[kind]] for kind in kinds)
    steps = tuple(
        tuple(kinds.index(tells_from(book, there, most - 1)) for there in book.steps[ways[kind]]) for kind in kinds
    )
    return telling, steps


def parting_in_words(one, other):
    most = len(one.steps) + len(other.steps) - 1
    return first_row(one.office, most, lambda row: told(one, row) != told(other, row))


def torn_in_words(book, most):
    for row in rows_to(book.office, most):
        for place in range(len(row) - 1):
            there = row[:place] + (row[place + 1], row[place]) + row[place + 2:]
            if not meeting(book.office, row[place], row[place + 1]) and told(book, row) != told(book, there):
                return row, place
    return None


def turning(office, many, tells):
    """A book that counts the works 0 in a circle, and tells of the standings as told."""
    steps = tuple(((k + 1) % many,) + (k,) * (len(office.works) - 1) for k in range(many))
    return Book(office, tells, steps)


class Least(Case):
    def test_one_standing(self):
        book = Book(F, (3,), ((0, 0, 0),))
        self.assertEqual(least_book(book), book)

    def test_standings_to_which_nobody_comes(self):
        book = Book(F, (0, 5, 1), ((2, 0, 0), (1, 2, 0), (0, 2, 2)))
        self.assertEqual(least_book(book), C)

    def test_standings_that_tell_the_same(self):
        book = Book(ALONE, (0, 1, 0, 1), ((1,), (2,), (3,), (0,)))
        self.assertEqual(least_book(book), Book(ALONE, (0, 1), ((1,), (0,))))
        flat = Book(ALONE, (7,) * 12, tuple(((k + 1) % 12,) for k in range(12)))
        self.assertEqual(least_book(flat), Book(ALONE, (7,), ((0,),)))

    def test_the_first_one_is_where_the_book_begins(self):
        book = Book(ALONE, (0, 1, 1), ((2,), (0,), (1,)))
        self.assertEqual(least_book(book), Book(ALONE, (0, 1, 1), ((1,), (2,), (0,))))

    def test_numbered_by_shorter_rows_ahead_then_ascending(self):
        book = Book(F, (0, 1, 2, 3), ((3, 1, 0), (2, 1, 1), (2, 2, 2), (3, 3, 2)))
        # () leads to 0, (0,) to 3, (1,) to 1, (0, 2) to 2, ahead of (1, 0).
        self.assertEqual(least_book(book).telling, (0, 3, 1, 2))
        self.assertEqual(least_book(book).steps, ((1, 2, 0), (1, 1, 3), (3, 2, 2), (3, 3, 3)))

    def test_by_words(self):
        for book in mixed_books():
            least = least_book(book)
            if len(book.steps) < 5:
                self.assertEqual((least.telling, least.steps), least_in_words(book))
            self.assertIs(type(least), Book)
            self.assertEqual(least.office, book.office)
            self.assertEqual(least_book(least), least)

    def test_none_is_less(self):
        for book in mixed_books():
            least = least_book(book)
            many = len(least.steps)
            kinds = {tells_from(least, standing, many - 1) for standing in range(many)}
            self.assertEqual(len(kinds), many)

    def test_doubled_books_have_the_same(self):
        for seed, book in enumerate(small_even_books()):
            self.assertEqual(least_book(doubled(book, seed)), least_book(book))

    def test_more_than_twelve_standings(self):
        book = joined(machine_by(SIX, (2,) * 6, 2))
        self.assertEqual(len(book.steps), 64)
        least = least_book(book)
        self.assertGreater(len(least.steps), 12)
        self.assertEqual(least_book(least), least)
        for row in rows_to(SIX, 3):
            self.assertEqual(told(least, row), told(book, row))


class Same(Case):
    def test_some(self):
        self.assertIs(same(C, C), True)
        self.assertIs(same(C, W), False)
        self.assertEqual(parting_row(C, W), (1,))
        self.assertIs(parting_row(C, C), None)

    def test_unlike_at_once(self):
        self.assertEqual(parting_row(C, Book(F, (1, 0), C.steps)), ())
        self.assertIs(same(C, Book(F, (1, 0), C.steps)), False)

    def test_one_standing_each(self):
        one, other = Book(F, (3,), ((0, 0, 0),)), Book(F, (4,), ((0, 0, 0),))
        self.assertIs(same(one, one), True)
        self.assertEqual(parting_row(one, other), ())

    def test_unlike_standings_that_tell_the_same(self):
        one = turning(F, 4, (0, 1, 0, 1))
        self.assertIs(same(one, turning(F, 2, (0, 1))), True)
        self.assertIs(parting_row(one, turning(F, 2, (0, 1))), None)
        self.assertIs(parting_row(one, turning(F, 6, (0, 1) * 3)), None)

    def test_standings_that_never_come_do_not_part(self):
        one = Book(F, (0, 1, 9), C.steps + ((0, 1, 2),))
        self.assertIs(same(C, one), True)
        self.assertIs(parting_row(one, C), None)

    def test_long_rows(self):
        one, other = turning(F, 12, (0,) * 11 + (1,)), turning(F, 11, (0,) * 11)
        self.assertEqual(parting_row(one, other), (0,) * 11)
        one, other = turning(F, 12, (1,) + (0,) * 11), turning(F, 11, (1,) + (0,) * 10)
        self.assertEqual(parting_row(one, other), (0,) * 11)
        self.assertEqual(parting_row(turning(F, 3, (0, 1, 2)), turning(F, 12, (0, 1, 2) * 3 + (0, 1, 3))), (0,) * 11)

    def test_by_words(self):
        found = {True: 0, False: 0}
        for office in (F, ALONE, ALONE_TWICE, APART):
            books = [book for book in mixed_books() if book.office == office and len(book.steps) < 4][:9]
            for one, other in product(books, repeat=2):
                row = parting_in_words(one, other)
                self.assertEqual(parting_row(one, other), row)
                self.assertIs(same(one, other), row is None)
                found[row is None] += 1
        self.assertTrue(min(found.values()) > 10)

    def test_more_than_twelve_standings(self):
        one = joined(machine_by(SIX, (2,) * 6, 2))
        other = joined(machine_by(SIX, (2,) * 6, 4))
        row = parting_row(one, other)
        self.assertNotEqual(told(one, row), told(other, row))
        self.assertIs(same(one, other), False)
        self.assertIs(same(one, least_book(one)), True)
        self.assertIs(parting_row(one, least_book(one)), None)

    def test_no_match(self):
        for office in (O, Office(3, F.works), Office(2, ((0,), (1,), (1,))), ALONE):
            other = Book(office, (0,), ((0,) * len(office.works),))
            for function in (same, parting_row):
                self.raises(NoMatch, function, C, other)
                self.raises(NoMatch, function, other, C)
        self.assertIs(same(C, Book(Office(2, ((0,), (1,), (0, 1))), C.telling, C.steps)), True)


class Shareable(Case):
    def test_some(self):
        self.assertIs(is_shareable(C), True)
        self.assertIs(is_shareable(W), False)
        self.assertIs(is_shareable(Book(F, (5, 5, 5), W.steps)), True)

    def test_not_even_but_shareable(self):
        found = 0
        for seed, book in enumerate(small_even_books()):
            other = doubled(book, seed)
            self.assertIs(is_shareable(other), True)
            self.assertIs(torn(other), None)
            found += not is_even(other)
        self.assertGreater(found, 3)

    def test_by_words(self):
        kinds = set()
        for book in mixed_books():
            if len(book.steps) < 4:
                self.assertIs(is_shareable(book), shareable_in_words(book, 5))
            kinds.add((is_even(book), is_shareable(book)))
        self.assertEqual(kinds, {(True, True), (False, True), (False, False)})

    def test_the_sixth_fact(self):
        for book in mixed_books() + even_books():
            self.assertIs(is_shareable(book), is_even(least_book(book)))

    def test_rows_of_one_desk_only(self):
        for seed in range(1, 20):
            self.assertIs(is_shareable(book_by(ALONE_TWICE, 12, seed)), True)
            self.assertIs(is_shareable(book_by(O, 12, seed)), True)


class Torn(Case):
    def test_some(self):
        self.assertEqual(torn(W), ((0, 1), 0))
        self.assertIs(torn(C), None)

    def test_the_row_is_told_otherwise_far_behind(self):
        # The first of the works 0 and 1 counts, but nothing tells of it until two works 2.
        steps = ((1, 2, 0), (1, 1, 3), (2, 2, 4), (3, 3, 5), (4, 4, 6), (5, 5, 5), (6, 6, 6))
        book = Book(F, (0, 0, 0, 0, 0, 1, 2), steps)
        self.assertEqual(torn(book), ((0, 1, 2, 2), 0))

    def test_the_place_is_far_behind(self):
        steps = ((0, 0, 1), (1, 1, 2), (3, 4, 2), (3, 3, 3), (4, 4, 4))
        self.assertEqual(torn(Book(F, (0, 0, 0, 1, 2), steps)), ((2, 2, 0, 1), 2))

    def test_the_least_place(self):
        # Each of these rows is torn at two places.
        for telling, steps, answer in (
            ((0, 0, 1, 0, 0), ((4, 3, 4), (3, 0, 2), (0, 4, 4), (4, 3, 0), (3, 1, 0)), ((0, 1, 2), 0)),
            ((0, 1, 1, 1), ((2, 0, 2), (3, 3, 0), (2, 3, 3), (2, 1, 1)), ((0, 1, 1, 2), 0)),
            ((0, 0, 0, 0, 1), ((1, 1, 4), (3, 2, 1), (2, 0, 1), (3, 0, 1), (3, 3, 4)), ((0, 0, 1, 2), 1)),
        ):
            book = Book(APART, telling, steps)
            self.assertEqual(torn(book), answer)
            self.assertEqual(torn_in_words(book, 4), answer)

    def test_by_words(self):
        found = {}
        for book in mixed_books():
            if len(book.steps) < 4:
                answer = torn(book)
                self.assertEqual(answer, torn_in_words(book, 6))
                found[None if answer is None else (len(answer[0]), answer[1])] = True
        self.assertIn(None, found)
        self.assertGreater(len(found), 2)

    def test_more_books_by_words(self):
        shapes = set()
        for office in (F, IDLE, APART):
            for seed in range(1, 60):
                book = book_by(office, 3 + seed % 3, seed, 2)
                answer = torn(book)
                if answer is not None and len(answer[0]) < 6:
                    self.assertEqual(answer, torn_in_words(book, len(answer[0])))
                    shapes.add((len(answer[0]), answer[1]))
                elif answer is None:
                    self.assertIs(torn_in_words(book, 5), None)
        self.assertGreater(len(shapes), 4)

    def test_more_than_twelve_standings(self):
        for book in even_books():
            self.assertIs(torn(book), None)
            self.assertIs(is_shareable(book), True)


class MayBeApart(Case):
    def test_some(self):
        self.assertEqual(may_be_apart(C), [(0, 1), (0, 2), (1, 2)])
        self.assertEqual(may_be_apart(W), [(0, 2), (1, 2)])
        self.assertEqual(may_be_apart(Book(ALONE, (0,), ((0,),))), [])

    def test_works_that_meet(self):
        # Of the works of one desk, two count, and the third one begins anew.
        office = Office(1, ((0,), (0,), (0,)))
        book = Book(office, (0, 1), ((1, 1, 0), (0, 0, 0)))
        self.assertEqual(may_be_apart(book), [(0, 1)])

    def test_works_that_are_apart_but_must_not_be(self):
        # What work came first of all is told for ever.
        book = Book(F, (0, 1, 2, 3), ((1, 2, 3), (1, 1, 1), (2, 2, 2), (3, 3, 3)))
        self.assertEqual(may_be_apart(book), [])

    def test_by_words(self):
        seen = set()
        for book in mixed_books():
            if len(book.steps) < 4:
                ends = {
                    row: tuple(told(book, row + end) for end in rows_to(book.office, 2))
                    for row in rows_to(book.office, 4)
                }
                pairs = [
                    (one, other) for one, other in product(works_of(book.office), repeat=2) if one < other and all(
                        ends[row + (one, other)] == ends[row + (other, one)] for row in rows_to(book.office, 2)
                    )
                ]
                self.assertEqual(may_be_apart(book), pairs)
                seen |= {meeting(book.office, *pair) for pair in pairs}
        self.assertEqual(seen, {True, False})

    def test_apart_ones_are_among_them_in_shareable_books(self):
        for book in small_even_books():
            for one, other in product(works_of(book.office), repeat=2):
                if one < other and not meeting(book.office, one, other):
                    self.assertIn((one, other), may_be_apart(book))

    def test_lists_are_new(self):
        may_be_apart(C).append(None)
        self.assertEqual(may_be_apart(C), [(0, 1), (0, 2), (1, 2)])


class Alike(Case):
    def test_shareable_books_tell_alike_rows_the_same(self):
        for book in even_books()[:12]:
            for row in rows_to(book.office, 4)[::5]:
                self.assertEqual({told(book, other) for other in reached(book.office, row)}, {told(book, row)})


if __name__ == "__main__":
    unittest.main()
