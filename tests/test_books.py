"""Point 5.1: books, where they stand behind a row, what they tell, and even ones."""

import unittest
from itertools import product

from helper import ALONE, APART, C, F, O, SIX, W, long_row, odd_things, reached, rows_to
from latestword.books import Book, is_even, stood, told
from latestword.errors import BadBook, NoRow
from latestword.offices import Office


def counting(office, many):
    """A book that counts works, in a circle of so many standings."""
    each = len(office.works)
    return Book(office, tuple(k % 10 for k in range(many)), tuple(((k + 1) % many,) * each for k in range(many)))


class Making(unittest.TestCase):
    def bad(self, part, telling, steps, office=F):
        with self.assertRaises(BadBook) as caught:
            Book(office, telling, steps)
        self.assertEqual(caught.exception.part, part)
        self.assertIs(type(caught.exception), BadBook)

    def test_attributes(self):
        book = Book(F, (0, 9), ((1, 0, 0), (0, 1, 1)))
        self.assertEqual(book.office, F)
        self.assertEqual(book.telling, (0, 9))
        self.assertEqual(book.steps, ((1, 0, 0), (0, 1, 1)))
        self.assertIs(type(book.office), Office)

    def test_one_to_twelve_standings(self):
        for many in range(1, 13):
            self.assertEqual(len(counting(F, many).telling), many)
        for many in (13, 14, 200):
            self.bad("telling", (0,) * many, ((0, 0, 0),) * many)
        self.bad("telling", (), ())

    def test_numbers_told(self):
        for number in range(10):
            self.assertEqual(Book(ALONE, (number,), ((0,),)).telling, (number,))
        for number in (-1, 10, 11, 10 ** 39, True, False, None, "0", (0,), [0], b"0"):
            self.bad("telling", (number,), ((0, 0, 0),))
            self.bad("telling", (0, number), ((0, 0, 0),) * 2)

    def test_telling_is_a_tuple(self):
        for telling in ([0], [], "0", b"0", {0: 0}, 0, None, range(1)):
            self.bad("telling", telling, ((0, 0, 0),))

    def test_steps(self):
        right = ((0, 1, 1), (1, 0, 0))
        Book(F, (0, 1), right)
        for steps in (
            (), right[:1], right + right[:1], list(right), [(0, 1, 1), (1, 0, 0)], ([0, 1, 1], (1, 0, 0)),
            ((0, 1, 1), [1, 0, 0]), ((0, 1), (1, 0)), ((0, 1, 1, 0), (1, 0, 0, 0)), ((0, 1, 2), (1, 0, 0)),
            ((0, 1, -1), (1, 0, 0)), ((0, 1, True), (1, 0, 0)), ((0, 1, 1), (False, 0, 0)), ((0, 1, 1), None),
            ((0, 1, None), (1, 0, 0)), (0, 1), "01", None, {0: (0, 1, 1), 1: (1, 0, 0)}, ("011", "100"),
            ((0, 1, "1"), (1, 0, 0)), ((0, 1, (1,)), (1, 0, 0)),
        ):
            with self.subTest(steps=steps):
                self.bad("steps", (0, 1), steps)

    def test_every_kind(self):
        for thing in odd_things():
            plain = isinstance(thing, tuple) and all(type(part) is int and 0 <= part <= 9 for part in thing)
            if not plain or not 1 <= len(thing) <= 12:
                self.bad("telling", thing, ((0, 0, 0),))
                self.bad("telling", thing, thing)
            self.bad("steps", (0,), thing)
            self.bad("steps", (0,), (thing,))
            if thing != 3:
                self.bad("steps", (0,), ((0, 0, thing),))

    def test_telling_is_told_first(self):
        for steps in (None, (), ((9, 9, 9),), [(0, 0, 0)]):
            self.bad("telling", (10,), steps)
            self.bad("telling", None, steps)
            self.bad("steps", (1,), steps)

    def test_works_of_this_office(self):
        self.bad("steps", (0,), ((0, 0, 0),), ALONE)
        self.bad("steps", (0,), ((0, 0, 0),), SIX)
        self.assertEqual(Book(SIX, (0,), ((0,) * 10,)).steps, ((0,) * 10,))


class Equality(unittest.TestCase):
    def test_equal_just_if_all_three_are(self):
        office = Office(2, ((0,), (1,), (0, 1)))
        same = Book(office, (0, 1), ((1, 0, 0), (0, 1, 1)))
        self.assertTrue(C == same)
        self.assertFalse(C != same)
        for other in (
            Book(F, (0, 2), ((1, 0, 0), (0, 1, 1))), Book(F, (0, 1), ((1, 0, 0), (0, 1, 0))), W,
            Book(Office(3, F.works), C.telling, C.steps), Book(Office(2, ((0,), (1,), (1,))), C.telling, C.steps),
        ):
            self.assertFalse(C == other)
            self.assertTrue(C != other)

    def test_unlike_other_kinds(self):
        class Alike:
            office, telling, steps = C.office, C.telling, C.steps

        for thing in odd_things() + [Alike(), (F, C.telling, C.steps), F]:
            if thing is not C:
                self.assertIs(C == thing, False)
                self.assertIs(C != thing, True)
                self.assertIs(thing == C, False)
                self.assertIs(thing != C, True)


class Telling(unittest.TestCase):
    def test_stood_and_told(self):
        self.assertEqual(stood(C, ()), 0)
        self.assertEqual(told(C, ()), 0)
        self.assertEqual(stood(C, (0,)), 1)
        self.assertEqual(stood(C, (0, 2, 0)), 0)
        self.assertEqual(stood(W, (1, 0, 2)), 2)
        self.assertEqual(told(W, (0, 1, 2)), 1)
        first = Book(F, (7, 4), ((1, 1, 1), (1, 1, 1)))
        self.assertEqual((told(first, ()), told(first, (2,))), (7, 4))

    def test_by_words(self):
        for book in (C, W, counting(F, 12), counting(F, 5)):
            for row in rows_to(book.office, 4) + [long_row(book.office, 60, 3)]:
                standing = 0
                for work in row:
                    standing = book.steps[standing][work]
                self.assertEqual(stood(book, row), standing)
                self.assertEqual(told(book, row), book.telling[standing])
        self.assertEqual(stood(counting(SIX, 12), long_row(SIX, 60, 1)), 0)
        self.assertEqual(told(counting(SIX, 12), long_row(SIX, 59, 1)), 1)

    def test_no_row(self):
        for thing in odd_things() + [(3,), (0, True), [0], [], (0, -1)]:
            if not (isinstance(thing, tuple) and all(type(part) is int and 0 <= part < 3 for part in thing)):
                for function in (stood, told):
                    with self.assertRaises(NoRow) as caught:
                        function(C, thing)
                    self.assertIs(type(caught.exception), NoRow)


class Even(unittest.TestCase):
    def test_some(self):
        self.assertIs(is_even(C), True)
        self.assertIs(is_even(W), False)
        self.assertIs(is_even(counting(F, 12)), True)
        self.assertIs(is_even(Book(ALONE, (0,), ((0,),))), True)

    def test_all_books_of_two_standings(self):
        found = {True: 0, False: 0}
        for flat in product(range(2), repeat=6):
            book = Book(F, (0, 1), (flat[:3], flat[3:]))
            even = all(
                book.steps[book.steps[k][0]][1] == book.steps[book.steps[k][1]][0] for k in range(2)
            )
            self.assertIs(is_even(book), even)
            found[even] += 1
        self.assertTrue(found[True] and found[False])

    def test_works_that_meet_do_not_count(self):
        for flat in product(range(2), repeat=6):
            self.assertIs(is_even(Book(O, (0, 1), (flat[:3], flat[3:]))), True)

    def test_standings_that_never_come_count(self):
        steps = ((0, 0, 0), (2, 3, 1), (2, 2, 2), (3, 3, 3))
        self.assertIs(is_even(Book(F, (0, 1, 2, 3), steps)), False)

    def test_numbers_told_do_not_count(self):
        self.assertIs(is_even(Book(F, (5, 5, 5), W.steps)), False)

    def test_alike_rows_lead_even_books_alike(self):
        for flat in list(product(range(2), repeat=6))[::5]:
            book = Book(APART, (0, 1), (flat[:3], flat[3:]))
            split = [
                row for row in rows_to(APART, 3)
                if len({stood(book, other) for other in reached(APART, row)}) > 1
            ]
            if is_even(book):
                self.assertEqual(split, [])


if __name__ == "__main__":
    unittest.main()
