"""Point 10.1: how desks hear of all that was done, by as few works as can be."""

import unittest
from itertools import product

from helper import (
    ALONE, ALONE_TWICE, APART, Case, F, IDLE, O, RING, SIX, SIX_RING, STAR, first_row, long_row, odd_things, reached,
    rows_of, rows_to, viewed
)
from latestword.errors import NoDesk, NoRow, TooMany
from latestword.hearing import fewest_for_all, fewest_to_hear
from latestword.offices import Office

FIVE = Office(5, ((0, 1), (1, 2), (2, 3), (3, 4)))
LINE = Office(4, ((0, 1), (1, 2), (2, 3)))
PAIRS = Office(4, ((0, 1), (2, 3)))
FOUR = Office(4, ((0, 1), (2, 3), (0, 2), (1, 3), (0,), (1,), (2,), (3,)))


def has_heard(office, row, behind, desk):
    return set(range(len(row))) <= viewed(office, row + behind, (desk,))


def to_hear_in_words(office, row, desk, most):
    return first_row(office, most, lambda behind: has_heard(office, row, behind, desk))


def for_all_in_words(office, row, most):
    desks = range(office.desks)
    return first_row(office, most, lambda behind: all(has_heard(office, row, behind, desk) for desk in desks))


class ToHear(Case):
    def test_some(self):
        self.assertEqual(fewest_to_hear(F, (0,), 1), (2,))
        self.assertEqual(fewest_to_hear(F, (0,), 0), ())
        self.assertEqual(fewest_to_hear(F, (0, 1), 0), (2,))
        self.assertEqual(fewest_to_hear(LINE, (2,), 0), (1, 0))
        self.assertEqual(fewest_to_hear(LINE, (0, 2), 0), (1, 0))
        self.assertEqual(fewest_to_hear(LINE, (0, 2), 1), (1,))
        longer = Office(4, LINE.works + ((0,), (3,)))
        self.assertEqual(fewest_to_hear(longer, (3,), 3), (0, 1, 2))
        self.assertEqual(fewest_to_hear(longer, (3, 0), 3), (1, 2))
        self.assertEqual(fewest_to_hear(longer, (4, 3), 1), (0, 2, 1))

    def test_nothing_was_done(self):
        for office in (F, O, ALONE, IDLE, APART, PAIRS, FOUR):
            for desk in range(office.desks):
                self.assertEqual(fewest_to_hear(office, (), desk), ())
            self.assertEqual(fewest_for_all(office, ()), ())

    def test_desks_that_never_meet(self):
        self.assertIs(fewest_to_hear(APART, (1,), 0), None)
        self.assertEqual(fewest_to_hear(APART, (1,), 1), ())
        self.assertIs(fewest_to_hear(PAIRS, (0, 1), 0), None)
        self.assertEqual(fewest_to_hear(PAIRS, (0,), 0), ())
        self.assertIs(fewest_to_hear(PAIRS, (0,), 3), None)
        self.assertIs(fewest_to_hear(IDLE, (0,), 0), None)
        self.assertIs(fewest_for_all(PAIRS, (0,)), None)
        self.assertIs(fewest_for_all(IDLE, (2,)), None)

    def test_the_least_of_the_shortest(self):
        # Desk 0 hears of desk 3 by the desks 1 or 2; the works 0 and 1 stand ahead.
        office = Office(4, ((1, 3), (0, 1), (2, 3), (0, 2)))
        self.assertEqual(fewest_to_hear(office, (2, 2, 0), 0), (1,))
        self.assertEqual(fewest_to_hear(office, (0, 2), 0), (3,))
        self.assertEqual(fewest_to_hear(office, (1, 0, 2, 2), 0), (3,))
        self.assertEqual(fewest_to_hear(office, (0, 2, 0), 0), (1,))
        self.assertEqual(fewest_to_hear(FOUR, (7,), 0), (1, 2))
        self.assertEqual(fewest_to_hear(FOUR, (7, 4), 0), (1, 2))
        self.assertEqual(fewest_to_hear(FOUR, (4, 5, 6, 7), 0), (0, 1, 2))

    def test_by_words(self):
        lengths = set()
        for office in (F, O, ALONE, ALONE_TWICE, IDLE, APART, LINE, PAIRS):
            for row in rows_to(office, 3):
                for desk in range(office.desks):
                    answer = fewest_to_hear(office, row, desk)
                    self.assertEqual(answer, to_hear_in_words(office, row, desk, 3))
                    lengths.add(None if answer is None else len(answer))
        self.assertEqual(lengths, {None, 0, 1, 2})

    def test_offices_of_four_desks_by_words(self):
        for office in (RING, STAR, LINE, PAIRS, Office(4, ((0, 1, 2), (2, 3), (3,)))):
            for row in rows_of(office, 4)[::7]:
                for desk in range(4):
                    answer = fewest_to_hear(office, row, desk)
                    words = to_hear_in_words(office, row, desk, 4)
                    self.assertEqual(answer, words)

    def test_long_rows(self):
        for office in (O, RING, STAR, FOUR):
            for seed in range(4):
                row = long_row(office, 60, seed)
                for desk in range(office.desks):
                    answer = fewest_to_hear(office, row, desk)
                    self.assertEqual(answer, to_hear_in_words(office, row, desk, len(answer)))

    def test_alike_rows(self):
        for office in (F, RING, STAR):
            row = long_row(office, 5, 4)
            for other in reached(office, row):
                for desk in range(office.desks):
                    self.assertEqual(fewest_to_hear(office, other, desk), fewest_to_hear(office, row, desk))
                self.assertEqual(fewest_for_all(office, other), fewest_for_all(office, row))


class ForAll(Case):
    def test_some(self):
        self.assertEqual(fewest_for_all(F, (0,)), (2,))
        self.assertEqual(fewest_for_all(F, (0, 1, 2)), ())
        self.assertEqual(fewest_for_all(ALONE, (0, 0)), ())
        self.assertEqual(fewest_for_all(LINE, (1,)), (0, 2))
        self.assertEqual(fewest_for_all(LINE, (0,)), (1, 2))
        self.assertEqual(fewest_for_all(FOUR, (4, 5, 6, 7)), (0, 1, 2, 3))
        self.assertEqual(fewest_for_all(LINE, (0, 1, 2)), (1, 0))

    def test_by_words(self):
        lengths = set()
        for office in (F, O, ALONE, ALONE_TWICE, IDLE, APART, PAIRS):
            for row in rows_to(office, 3):
                answer = fewest_for_all(office, row)
                self.assertEqual(answer, for_all_in_words(office, row, 3))
                lengths.add(None if answer is None else len(answer))
        self.assertEqual(lengths, {None, 0, 1})

    def test_offices_of_four_desks_by_words(self):
        lengths = set()
        for office in (RING, STAR, LINE):
            for row in rows_to(office, 3)[::3]:
                answer = fewest_for_all(office, row)
                self.assertEqual(answer, for_all_in_words(office, row, len(answer)))
                lengths.add(len(answer))
        for row in ((4, 5, 6, 7), (4, 1), (0, 1, 2)):
            answer = fewest_for_all(FOUR, row)
            self.assertEqual(answer, for_all_in_words(FOUR, row, len(answer)))
            lengths.add(len(answer))
        self.assertEqual(lengths, {0, 2, 3, 4})

    def test_long_rows(self):
        for office in (O, RING, STAR):
            for seed in range(4):
                row = long_row(office, 60, seed)
                answer = fewest_for_all(office, row)
                self.assertEqual(answer, for_all_in_words(office, row, len(answer)))

    def test_works_of_all_desks(self):
        office = Office(4, ((0, 1), (2, 3), (0, 1, 2, 3), (1, 2, 3)))
        self.assertEqual(fewest_for_all(office, (0, 1)), (2,))
        self.assertEqual(fewest_for_all(office, (0, 1, 3)), (0,))


class Errors(Case):
    def test_no_row(self):
        for thing in odd_things() + [(3,), (0, True), [0], (-1,)]:
            if not (isinstance(thing, tuple) and all(type(part) is int and 0 <= part < 3 for part in thing)):
                for desk in (0, 9, None):
                    self.raises(NoRow, fewest_to_hear, F, thing, desk)
                self.raises(NoRow, fewest_for_all, F, thing)

    def test_no_desk(self):
        for thing in odd_things() + [2, -1, True]:
            if not (type(thing) is int and thing in (0, 1)):
                self.raises(NoDesk, fewest_to_hear, F, (0,), thing)
                self.raises(NoDesk, fewest_to_hear, F, (), thing)

    def too_many(self, function, *arguments):
        with self.assertRaises(TooMany) as caught:
            function(*arguments)
        self.assertEqual(caught.exception.most, 4)
        self.assertIs(type(caught.exception), TooMany)

    def test_too_many(self):
        for office in (FIVE, SIX, SIX_RING):
            for row in ((), (0,), (0, 1, 2)):
                for desk in range(office.desks):
                    self.too_many(fewest_to_hear, office, row, desk)
                self.too_many(fewest_for_all, office, row)

    def test_too_many_comes_last(self):
        for row, desk in product(((10,), None, [0]), (0, None)):
            self.raises(NoRow, fewest_to_hear, SIX, row, desk)
        self.raises(NoRow, fewest_for_all, SIX, (10,))
        self.raises(NoDesk, fewest_to_hear, SIX, (0,), 6)
        self.raises(NoDesk, fewest_to_hear, FIVE, (), 5)
        self.raises(NoDesk, fewest_to_hear, FIVE, (), None)

    def test_one_to_four_desks_are_let(self):
        for desks in range(1, 5):
            office = Office(desks, (tuple(range(desks)),))
            self.assertEqual(fewest_for_all(office, (0,)), ())
            self.assertEqual(fewest_to_hear(office, (0, 0), desks - 1), ())


if __name__ == "__main__":
    unittest.main()
