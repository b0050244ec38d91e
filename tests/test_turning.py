"""Point 17.1: goals from one book to another, and notes turned by them."""

import copy
import unittest
from itertools import product

from helper import (
    ALONE, APART, C, Case, F, O, RING, SIX, STAR, W, adding_book, book_by, chain_of_books, doubled, even_books,
    goals_by_rows, long_row, machine_by, mixed_books, odd_things, rows_to, small_even_books
)
from latestword.books import Book, is_even, stood
from latestword.errors import NoGoals, NoMatch, NoNote, NotComing, NotEven
from latestword.leasts import least_book
from latestword.machines import joined
from latestword.notes import blank_note, note, worked
from latestword.turning import are_goals, least_goals, turned

SIX_COUNTED = adding_book(F, 6, (1, 2, 3))
THREE_COUNTED = adding_book(F, 3, (1, 2, 0))
TWO_COUNTED = adding_book(F, 2, (1, 0, 1))
ONE = Book(F, (5,), ((0, 0, 0),))


def are_goals_in_words(book, other, goals):
    if goals[0] != 0 or set(goals) != set(range(len(other.steps))):
        return False
    return all(
        goals[there] == other.steps[goals[standing]][work]
        for standing, step in enumerate(book.steps) for work, there in enumerate(step)
    )


def turned_in_words(goals, held):
    found = []
    for change in held[1]:
        own = [None] * len(set(goals))
        for standing, there in enumerate(change):
            own[goals[standing]] = goals[there]
        found.append(tuple(own))
    return held[0], tuple(found)


def chains():
    return [
        chain_of_books(office, many, seed)
        for office, many in ((F, (2, 3)), (O, (2, 2, 2)), (RING, (2, 1, 2, 2)), (STAR, (2, 2, 1, 3)), (APART, (2, 2, 3)))
        for seed in (1, 2, 4)
    ]


class AreGoals(Case):
    def test_some(self):
        self.assertIs(are_goals(C, C, (0, 1)), True)
        self.assertIs(are_goals(C, C, (1, 0)), False)
        self.assertIs(are_goals(SIX_COUNTED, THREE_COUNTED, (0, 1, 2, 0, 1, 2)), True)
        self.assertIs(are_goals(SIX_COUNTED, TWO_COUNTED, (0, 1, 0, 1, 0, 1)), True)
        self.assertIs(are_goals(SIX_COUNTED, ONE, (0,) * 6), True)
        self.assertIs(are_goals(THREE_COUNTED, SIX_COUNTED, (0, 1, 2)), False)

    def test_what_is_told_does_not_count(self):
        other = Book(F, (9, 9), C.steps)
        self.assertIs(are_goals(C, other, (0, 1)), True)
        self.assertIs(are_goals(other, C, (0, 1)), True)

    def test_all_tuples(self):
        books = [book for book in mixed_books() + [TWO_COUNTED, THREE_COUNTED, ONE] if len(book.steps) < 5]
        seen = 0
        for book in books:
            for other in [held for held in books if held.office == book.office][::3] + [book, least_book(book)]:
                for goals in product(range(len(other.steps)), repeat=len(book.steps)):
                    right = are_goals_in_words(book, other, goals)
                    self.assertIs(are_goals(book, other, goals), right)
                    seen += right
        self.assertGreater(seen, 100)

    def test_to_itself(self):
        for book in mixed_books() + even_books():
            self.assertIs(are_goals(book, book, tuple(range(len(book.steps)))), True)

    def test_from_books_of_which_standings_were_put_together(self):
        for books, ways in chains():
            for book, other, goals in zip(books, books[1:], ways):
                self.assertIs(are_goals(book, other, goals), True)
                self.assertIs(is_even(other), True)
            self.assertEqual(len(books[-1].steps), 1)

    def test_each_condition_broken_alone(self):
        # The first goal is not 0: everything is one further.
        self.assertIs(are_goals(THREE_COUNTED, THREE_COUNTED, (1, 2, 0)), False)
        # One work leads elsewhere.
        other = Book(F, (0, 1, 2), ((1, 2, 0), (2, 0, 1), (0, 1, 0)))
        self.assertIs(are_goals(THREE_COUNTED, other, (0, 1, 2)), False)
        # A standing of the other one is no goal.
        other = Book(F, (0, 1, 2), ((1, 0, 0), (0, 1, 1), (2, 2, 2)))
        self.assertIs(are_goals(C, other, (0, 1)), False)
        self.assertIs(are_goals(other, C, (0, 1, 1)), False)
        self.assertIs(are_goals(ONE, Book(F, (0, 0), ((0, 0, 0), (1, 1, 1))), (0,)), False)

    def test_standings_that_never_come(self):
        book = Book(F, (0, 1, 2), ((1, 0, 0), (0, 1, 1), (0, 2, 2)))
        self.assertIs(are_goals(book, C, (0, 1, 1)), True)
        self.assertIs(are_goals(book, C, (0, 1, 0)), False)

    def test_things_of_any_kind(self):
        wrong = [(0,), (0, 1, 0), [0, 1], (False, True), (0, True), (0, 2), (0, -1), (0, None), (0, "1"), {0: 0, 1: 1}, "01",
                 ((0, 1),), (0, (1,)), (0, 10 ** 39), (0, 0), (1, 1)]
        for thing in wrong + odd_things():
            if not (type(thing) is tuple and thing == (0, 1) and type(thing[1]) is int):
                self.assertIs(are_goals(C, C, thing), False)

    def test_no_match(self):
        for other in (book_by(O, 2, 1), Book(ALONE, (0, 1), ((0,), (1,)))):
            for thing in ((0, 1), None, (), [0]):
                self.raises(NoMatch, are_goals, C, other, thing)
                self.raises(NoMatch, are_goals, other, C, thing)

    def test_books_of_an_equal_office_match(self):
        self.assertIs(are_goals(C, copy.deepcopy(C), (0, 1)), True)


class Turned(Case):
    def test_some(self):
        held = note(SIX_COUNTED, (0, 2), 0)
        behind = turned(SIX_COUNTED, THREE_COUNTED, (0, 1, 2, 0, 1, 2), held)
        self.assertEqual(behind[0], held[0])
        self.assertEqual(behind[1], ((1, 2, 0),) + ((0, 1, 2),) * 3)
        self.assertEqual(behind, note(THREE_COUNTED, (0, 2), 0))

    def test_the_eleventh_fact_on_short_rows(self):
        for book in small_even_books():
            if book not in (C,):
                goals = goals_by_rows(book, least_book(book)) if coming(book) else None
            else:
                goals = (0, 1)
            if goals is not None:
                for row in rows_to(book.office, 3):
                    self.compare(book, least_book(book), goals, row)

    def test_the_eleventh_fact_behind_two_turnings(self):
        for seed, (books, ways) in enumerate(chains()):
            row = long_row(books[0].office, 60, seed)
            for desk in range(books[0].office.desks):
                held = note(books[0], row, desk)
                for book, other, goals in zip(books, books[1:], ways):
                    held = turned(book, other, goals, held)
                    self.assertEqual(held, note(other, row, desk))

    def test_turned_notes_are_led_on(self):
        for seed, (books, ways) in enumerate(chains()):
            book, other = books[0], books[1]
            office = book.office
            row = long_row(office, 12, seed)
            going = [blank_note(book)] * office.desks
            for at, work in enumerate(row):
                if at == 6:
                    going = [turned(book, other, ways[0], held) for held in going]
                used = book if at < 6 else other
                behind = worked(used, work, tuple(going[desk] for desk in office.works[work]))
                for desk in office.works[work]:
                    going[desk] = behind
            self.assertEqual(going, [note(other, row, desk) for desk in range(office.desks)])

    def test_to_itself(self):
        for book in even_books():
            held = note(book, long_row(book.office, 20, 3), 0)
            self.assertEqual(turned(book, book, tuple(range(len(book.steps))), held), held)

    def test_many_standings(self):
        book = joined(machine_by(SIX, (2,) * 6, 2))
        self.assertGreater(len(book.steps), 12)
        one = Book(SIX, (0,), ((0,) * 10,))
        row = long_row(SIX, 30, 1)
        self.assertEqual(turned(book, one, (0,) * len(book.steps), note(book, row, 4)), note(one, row, 4))
        self.compare(book, least_book(book), least_goals(book), row)

    def compare(self, book, other, goals, row):
        for desk in range(book.office.desks):
            held = note(book, row, desk)
            self.assertEqual(turned(book, other, goals, held), note(other, row, desk))
            self.assertEqual(turned(book, other, goals, held), turned_in_words(goals, held))

    def test_errors_in_their_order(self):
        blank = blank_note(C)
        odd = odd_things()
        far = book_by(O, 2, 1)
        for thing in odd:
            for book in (W, doubled(C, 2)):
                self.raises(NotEven, turned, book, far, thing, thing)
                self.raises(NotEven, turned, book, book, thing, thing)
            self.raises(NoMatch, turned, C, far, thing, thing)
            self.raises(NoMatch, turned, C, far, (0, 1), thing)
            if not (type(thing) is tuple and thing == (0, 1)):
                self.raises(NoGoals, turned, C, C, thing, thing)
                self.raises(NoGoals, turned, C, C, thing, blank)
            self.raises(NoNote, turned, C, C, (0, 1), thing)
        self.raises(NoGoals, turned, C, C, (1, 0), blank)
        self.raises(NoGoals, turned, C, W, (0, 1), blank)
        self.raises(NoGoals, turned, C, C, (False, True), blank)

    def test_what_has_no_notes_form(self):
        known, turns = note(C, (0, 2, 1), 0)
        for thing in ((known,), [known, turns], (turns, known), (known, list(turns)), (known, turns[1:]), (list(known), turns),
                      (known, turns + turns[:1]), (known, turns[:3] + ((0, 2),)), (known, turns[:3] + ((0,),)),
                      (known, turns[:3] + ((0, True),)), (known, turns[:3] + ([0, 1],)), (known[:2], turns),
                      (known, turns, turns), blank_note(ONE), blank_note(THREE_COUNTED), blank_note(adding_book(O, 2, (1, 1, 1)))):
            self.raises(NoNote, turned, C, C, (0, 1), thing)

    def test_notes_for_the_book_not_for_the_other(self):
        goals = (0, 1, 2, 0, 1, 2)
        self.raises(NoNote, turned, SIX_COUNTED, THREE_COUNTED, goals, blank_note(THREE_COUNTED))
        self.assertEqual(turned(SIX_COUNTED, THREE_COUNTED, goals, blank_note(SIX_COUNTED)), blank_note(THREE_COUNTED))

    def test_notes_of_no_row_raise_nothing(self):
        known = blank_note(C)[0]
        for change in product(range(2), repeat=2):
            held = (known, (change, (0, 0), (1, 1), change))
            self.assertEqual(turned(C, C, (0, 1), held), held)
            self.assertEqual(turned(C, ONE, (0, 0), held), (known, ((0,),) * 4))

    def test_arguments_stay_as_they_were(self):
        held = note(SIX_COUNTED, (0, 2, 1, 0), 0)
        kept = copy.deepcopy(held)
        turned(SIX_COUNTED, TWO_COUNTED, (0, 1, 0, 1, 0, 1), held)
        self.assertEqual(held, kept)


def coming(book):
    """Whether all standings come by some row."""
    found = {0}
    while True:
        more = found | {there for standing in found for there in book.steps[standing]}
        if more == found:
            return len(found) == len(book.steps)
        found = more


class LeastGoals(Case):
    def test_some(self):
        self.assertEqual(least_goals(C), (0, 1))
        self.assertEqual(least_goals(SIX_COUNTED), (0, 1, 2, 3, 4, 5))
        self.assertEqual(least_goals(adding_book(F, 6, (1, 2, 3), (0, 1, 2) * 2)), (0, 1, 2, 0, 1, 2))
        # The least book numbers its standings by rows: the work 0 leads to its standing 1, the work 1 to 2.
        self.assertEqual(least_goals(adding_book(F, 3, (2, 1, 0))), (0, 2, 1))
        self.assertEqual(least_goals(adding_book(F, 6, (1, 2, 4), (0, 1) * 3)), (0, 1) * 3)
        self.assertEqual(least_goals(Book(F, (4, 4), C.steps)), (0, 0))

    def test_all_books(self):
        seen = set()
        for book in mixed_books() + even_books() + [book_by(F, 5, seed) for seed in range(30)]:
            seen.add(coming(book))
            if coming(book):
                goals = least_goals(book)
                self.assertIs(are_goals(book, least_book(book), goals), True)
                self.assertIs(are_goals_in_words(book, least_book(book), goals), True)
                self.assertEqual(goals, goals_by_rows(book, least_book(book)))
            else:
                self.raises(NotComing, least_goals, book)
        self.assertEqual(seen, {True, False})

    def test_they_go_by_rows(self):
        for book in small_even_books():
            if coming(book):
                for row in rows_to(book.office, 4):
                    self.assertEqual(least_goals(book)[stood(book, row)], stood(least_book(book), row))

    def test_books_that_are_not_even(self):
        self.assertEqual(least_goals(W), (0, 1, 2))

    def test_not_coming(self):
        self.raises(NotComing, least_goals, Book(F, (0, 1), ((0, 0, 0), (0, 0, 0))))
        self.raises(NotComing, least_goals, Book(ALONE, (0, 0, 0), ((1,), (0,), (0,))))
        self.assertEqual(least_goals(Book(ALONE, (0, 0, 0), ((1,), (2,), (0,)))), (0, 0, 0))

    def test_many_standings(self):
        book = joined(machine_by(SIX, (2,) * 6, 2))
        self.assertIs(are_goals(book, least_book(book), least_goals(book)), True)


if __name__ == "__main__":
    unittest.main()
