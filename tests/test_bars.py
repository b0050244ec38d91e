"""Point 7.3: how many notes a desk must have, and the rows that bar fewer."""

import unittest
from itertools import product

from helper import (
    ALONE, ALONE_TWICE, APART, C, Case, F, IDLE, O, SIX, W, doubled, even_books, long_row, machine_by, mixed_books,
    odd_things, rows_to, shareable_in_words, small_even_books, tells_from
)
from latestword.bars import bar_rows, is_bar, must_have
from latestword.books import Book, stood, told
from latestword.errors import NoDesk, NotShareable
from latestword.leasts import is_shareable, least_book
from latestword.machines import is_for, joined, used
from latestword.offices import Office


def alone_in_words(office, desk):
    return [work for work, desks in enumerate(office.works) if desks == (desk,)]


def must_have_in_words(book, desk):
    """By the unlike tellings behind all rows with all ways by works of the desk alone behind them."""
    many = len(book.steps)
    own = alone_in_words(book.office, desk)
    ways = [way for length in range(many) for way in product(own, repeat=length)]
    kinds = [tells_from(book, standing, many - 1) for standing in range(many)]
    return max(
        len({kinds[stood(book, row + way)] for way in ways}) for row in rows_to(book.office, many - 1)
    )


def counting(office, adds, many, telling):
    """A book that adds up what works add, in a circle."""
    steps = tuple(tuple((k + add) % many for add in adds) for k in range(many))
    return Book(office, telling, steps)


class MustHave(Case):
    def test_some(self):
        self.assertEqual(must_have(C, 0), 2)
        self.assertEqual(must_have(C, 1), 1)

    def test_by_words(self):
        seen = set()
        for book in mixed_books():
            if is_shareable(book) and len(book.steps) < 4:
                for desk in range(book.office.desks):
                    self.assertEqual(must_have(book, desk), must_have_in_words(book, desk))
                    seen.add(must_have(book, desk))
        self.assertEqual(seen, {1, 2, 3})

    def test_desks_without_works_of_their_own(self):
        for book in even_books():
            if book.office == O:
                for desk in range(3):
                    self.assertEqual(must_have(book, desk), 1)

    def test_works_of_others_do_not_count(self):
        book = counting(F, (0, 1, 1), 5, (0, 1, 2, 3, 4))
        self.assertEqual((must_have(book, 0), must_have(book, 1)), (1, 5))

    def test_the_greatest_number(self):
        # The work 2 leads on to where the works 0 count further than at first.
        steps = ((1, 0, 2), (1, 1, 2), (3, 2, 2), (4, 3, 2), (4, 4, 2))
        book = Book(F, (0, 1, 2, 3, 4), steps)
        self.assertEqual(must_have(book, 0), 3)
        self.assertEqual(must_have(book, 1), 1)

    def test_several_works_of_the_desk(self):
        office = Office(2, ((0,), (0,), (1,), (0, 1)))
        self.assertEqual(must_have(counting(office, (2, 3, 0, 0), 6, (0, 1, 2, 3, 4, 5)), 0), 6)
        self.assertEqual(must_have(counting(office, (2, 2, 0, 0), 6, (0, 1, 2, 3, 4, 5)), 0), 3)
        self.assertEqual(must_have(counting(office, (2, 4, 0, 1), 6, (0, 1, 2, 3, 4, 5)), 0), 3)

    def test_standings_of_the_least_book(self):
        book = counting(F, (1, 0, 0), 12, (0, 1) * 6)
        self.assertEqual(must_have(book, 0), 2)
        never = Book(F, (0, 1, 2, 3, 4), C.steps + ((3, 2, 2), (4, 3, 3), (2, 4, 4)))
        self.assertEqual(must_have(never, 0), 2)

    def test_shareable_but_not_even(self):
        for seed, book in enumerate(small_even_books()):
            for desk in range(book.office.desks):
                self.assertEqual(must_have(doubled(book, seed), desk), must_have(book, desk))

    def test_the_seventh_fact(self):
        for office, many in ((F, (2, 3)), (APART, (2, 3, 2)), (IDLE, (2, 3, 2)), (ALONE, (6,)), (ALONE_TWICE, (4,))):
            for seed in range(1, 9):
                machine = machine_by(office, many, seed, 3)
                book = joined(machine)
                self.assertTrue(is_for(book, machine))
                for desk in range(office.desks):
                    self.assertGreaterEqual(len(used(machine)[desk]), must_have(book, desk))


class BarRows(Case):
    def fits(self, book, desk):
        answer = bar_rows(book, desk)
        self.assertIs(type(answer), tuple)
        row, rows = answer
        self.assertIs(type(rows), list)
        self.assertEqual(len(rows), must_have(book, desk))
        self.assertIs(type(row), tuple)
        least = least_book(book)
        many = len(least.steps)
        ends = {stood(least, row + own) for own in rows}
        self.assertEqual(len({tells_from(least, end, min(many, 4)) for end in ends}), len(rows))
        self.assertTrue(all(work in alone_in_words(book.office, desk) for own in rows for work in own))
        self.assertIs(is_bar(book, desk, answer), True)
        rows.clear()
        self.assertEqual(len(bar_rows(book, desk)[1]), must_have(book, desk))

    def test_some(self):
        self.fits(C, 0)
        self.assertEqual(len(bar_rows(C, 0)[1]), 2)
        self.assertEqual(len(bar_rows(C, 1)[1]), 1)

    def test_all(self):
        for book in mixed_books():
            if is_shareable(book):
                for desk in range(book.office.desks):
                    self.fits(book, desk)

    def test_more_than_twelve_standings(self):
        book = joined(machine_by(SIX, (2,) * 6, 2))
        for desk in range(6):
            answer = bar_rows(book, desk)
            self.assertEqual(len(answer[1]), must_have(book, desk))
            self.assertIs(is_bar(book, desk, answer), True)


class IsBar(Case):
    def test_some(self):
        for thing, answer in (
            (((), [()]), True), (((), [(), (0,)]), True), (((0, 2, 1), [(0,), (0, 0)]), True), (((), [(0, 0, 0)]), True),
            (((), [(0,), ()]), True), (((1,) * 60, [(0,) * 60, (0,)]), True),
            (((), []), False), (((), [(), ()]), False), (((), [(0,), (0,)]), False), (((), [(), (0, 0)]), False),
            (((), [(), (0,), (0, 0)]), False), (((), [(), (1,)]), False), (((), [(2,)]), False), (((), [(0, 2)]), False),
            (((), ((), (0,))), False), ([(), [(), (0,)]], False), (([], [()]), False), (((), [[0]]), False),
            (((3,), [()]), False), (((), [(3,)]), False), (((True,), [()]), False), (((), [(False,)]), False),
            (((), [()], []), False), (((),), False), ((), False), (((), {(): 0}), False), (((), None), False),
            ((None, [()]), False), (((), [None]), False), (((), [(None,)]), False), (((), "0"), False), (("", [()]), False),
        ):
            self.assertIs(is_bar(C, 0, thing), answer, thing)

    def test_the_other_desk(self):
        self.assertIs(is_bar(C, 1, ((), [()])), True)
        self.assertIs(is_bar(C, 1, ((0,), [(1, 1, 1)])), True)
        self.assertIs(is_bar(C, 1, ((), [(), (0,)])), False)
        self.assertIs(is_bar(C, 1, ((), [(), (1,)])), False)

    def test_unlike_only_further_on(self):
        book = counting(F, (1, 0, 0), 3, (0, 0, 1))
        self.assertIs(is_bar(book, 0, ((), [(), (0,)])), True)
        self.assertIs(is_bar(book, 0, ((), [(), (0,), (0, 0)])), True)
        self.assertIs(is_bar(book, 0, ((), [(), (0, 0, 0)])), False)

    def test_by_words(self):
        kinds = {True: 0, False: 0}
        for book in (C, Book(F, (0, 1, 2, 3, 4), ((1, 0, 2), (1, 1, 2), (3, 2, 2), (4, 3, 2), (4, 4, 2)))):
            for row in rows_to(F, 2):
                for rows in product(rows_to(ALONE, 3), repeat=3):
                    ends = [stood(book, row + own) for own in rows]
                    answer = is_bar(book, 0, (row, list(rows)))
                    self.assertIs(answer, len({tells_from(book, end, 4) for end in ends}) == 3)
                    kinds[answer] += 1
        self.assertTrue(kinds[True] and kinds[False])

    def test_long_things(self):
        rows = [(0,) * k for k in range(9000)]
        self.assertIs(is_bar(C, 0, (long_row(F, 60, 1), rows[:60])), False)
        self.assertIs(is_bar(C, 0, ((0,) * 5000, [(0,) * 4000, (0,) * 301])), True)
        self.assertIs(is_bar(C, 0, ((), [()] * 9000)), False)

    def test_things_of_any_kind(self):
        for thing in odd_things():
            self.assertIs(is_bar(C, 0, thing), False)
            self.assertIs(is_bar(C, 0, ((), thing)), False)
            if not (type(thing) is tuple and all(type(work) is int and 0 <= work < 3 for work in thing)):
                self.assertIs(is_bar(C, 0, (thing, [()])), False)
            if not (type(thing) is tuple and all(type(work) is int and work == 0 for work in thing)):
                self.assertIs(is_bar(C, 0, ((), [thing])), False)
            self.assertIs(is_bar(C, 0, ((), [(), (0,), thing])), False)


class Errors(Case):
    def test_not_shareable_is_ahead(self):
        found = 0
        for book in mixed_books():
            if not is_shareable(book):
                for desk in (0, 9, None):
                    self.raises(NotShareable, must_have, book, desk)
                    self.raises(NotShareable, bar_rows, book, desk)
                    self.raises(NotShareable, is_bar, book, desk, ((), [()]))
                    self.raises(NotShareable, is_bar, book, desk, None)
                found += 1
        self.assertGreater(found, 5)

    def test_no_desk(self):
        for thing in odd_things() + [2, 6, -1, True]:
            if not (type(thing) is int and thing in (0, 1)):
                self.raises(NoDesk, must_have, C, thing)
                self.raises(NoDesk, bar_rows, C, thing)
                self.raises(NoDesk, is_bar, C, thing, ((), [()]))
                self.raises(NoDesk, is_bar, C, thing, None)

    def test_shareable_by_words(self):
        self.assertFalse(shareable_in_words(W, 3))
        self.assertTrue(shareable_in_words(C, 3))
        self.assertEqual(told(C, (0,)), 1)


if __name__ == "__main__":
    unittest.main()
