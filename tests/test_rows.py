"""Point 1.2: rows, exchanges, least rows, layers, all alike rows and their number."""

import unittest
from math import factorial

from helper import (
    ALONE, ALONE_TWICE, APART, F, LARGE, O, RING, SIX, SMALL, least_of, long_row, meeting, odd_things, reached,
    rows_of, rows_to, works_of,
)
from latestword.errors import NoRow, TooMany
from latestword.offices import Office
from latestword.rows import alike, all_alike, exchanges, is_row, layers, least_row, many_alike

OF_ROWS = [least_row, layers, all_alike, many_alike]
OF_TWO = [alike, exchanges]


def right_rows(thing):
    return isinstance(thing, tuple) and all(type(part) is int and 0 <= part < 3 for part in thing)


class Rows(unittest.TestCase):
    def test_is_row(self):
        for row in ((), (0,), (2, 1, 0), (2,) * 60, (0, 1, 2) * 30):
            self.assertIs(is_row(F, row), True)
        for thing in odd_things() + [[0, 1], (3,), (0, 3), (-1,), (0, True), (0, (1,)), (0, None), "012", ([],)]:
            self.assertIs(is_row(F, thing), right_rows(thing))

    def test_is_row_judges_any_object(self):
        for thing in (1.5, {1}, frozenset((0,)), (0.0,), (1.0, 0), ({0},), 1j, object()):
            self.assertIs(is_row(F, thing), False)

    def test_is_row_looks_at_this_office(self):
        self.assertIs(is_row(ALONE, (1,)), False)
        self.assertIs(is_row(SIX, (9,)), True)
        self.assertIs(is_row(SIX, (10,)), False)

    def test_no_row(self):
        for thing in odd_things() + [(3,), (0, 3), (-1,), [0], (0, True), (0, None), ((0,),)]:
            if right_rows(thing):
                continue
            for function in OF_ROWS:
                with self.assertRaises(NoRow) as caught:
                    function(F, thing)
                self.assertIs(type(caught.exception), NoRow)
            for function in OF_TWO:
                for pair in ((thing, (0,)), ((0,), thing), (thing, thing)):
                    with self.assertRaises(NoRow) as caught:
                        function(F, *pair)
                    self.assertIs(type(caught.exception), NoRow)


class Alike(unittest.TestCase):
    def test_against_all_exchanges(self):
        for office in (F, O, ALONE_TWICE, APART, RING):
            for length in range(5 if len(office.works) < 4 else 4):
                for row in rows_of(office, length):
                    found = reached(office, row)
                    for other in rows_of(office, length):
                        self.assertIs(alike(office, row, other), other in found)
                        self.assertEqual(exchanges(office, row, other), found.get(other))

    def test_least_and_all(self):
        for office in SMALL:
            for row in rows_to(office, 4):
                found = reached(office, row)
                self.assertEqual(least_row(office, row), min(found))
                self.assertEqual(all_alike(office, row), sorted(found))
                self.assertEqual(many_alike(office, row), len(found))

    def test_longer_rows(self):
        for office in SMALL + LARGE:
            for seed in range(4):
                row = long_row(office, 7, seed)
                found = reached(office, row)
                self.assertEqual(all_alike(office, row), sorted(found))
                self.assertEqual(many_alike(office, row), len(found))
                self.assertEqual(least_row(office, row), min(found))
                for other in sorted(found)[::17]:
                    self.assertEqual(exchanges(office, row, other), found[other])
                    self.assertIs(alike(office, row, other), True)

    def test_unlike_lengths(self):
        self.assertIs(alike(F, (), (0,)), False)
        self.assertIs(alike(F, (0,), (0, 0)), False)
        self.assertIs(exchanges(F, (), (0,)), None)
        self.assertIs(exchanges(F, (0, 1), (0, 1, 1)), None)

    def test_rows_that_only_look_so(self):
        for one, other in (((0, 2, 1), (1, 2, 0)), ((0, 2), (2, 0)), ((0, 0, 1), (0, 1, 1)), ((0, 1, 2), (0, 2, 1))):
            self.assertIs(alike(F, one, other), False)
            self.assertIs(exchanges(F, one, other), None)
        self.assertIs(alike(ALONE_TWICE, (0, 1), (1, 0)), False)
        self.assertIs(alike(O, (0, 1, 2), (1, 0, 2)), False)

    def test_numbers_of_exchanges(self):
        self.assertEqual(exchanges(F, (), ()), 0)
        self.assertEqual(exchanges(F, (0, 1), (0, 1)), 0)
        self.assertIs(type(exchanges(F, (), ())), int)
        self.assertEqual(exchanges(F, (0, 1), (1, 0)), 1)
        self.assertEqual(exchanges(F, (0, 0, 1, 1), (1, 1, 0, 0)), 4)
        self.assertEqual(exchanges(F, (0,) * 30 + (1,) * 30, (1,) * 30 + (0,) * 30), 900)
        self.assertEqual(exchanges(F, (0, 1, 2, 0, 1), (1, 0, 2, 1, 0)), 2)

    def test_empty_and_one(self):
        for office in SMALL:
            self.assertEqual(least_row(office, ()), ())
            self.assertEqual(layers(office, ()), ())
            self.assertEqual(all_alike(office, ()), [()])
            self.assertEqual(many_alike(office, ()), 1)
            self.assertIs(alike(office, (), ()), True)
            for work in works_of(office):
                self.assertEqual(least_row(office, (work,)), (work,))
                self.assertEqual(layers(office, (work,)), ((work,),))
                self.assertEqual(all_alike(office, (work,)), [(work,)])
                self.assertEqual(many_alike(office, (work,)), 1)

    def test_all_meet_and_again_and_again(self):
        row = (2, 0, 1, 1, 0, 2, 2, 0)
        self.assertEqual(least_row(O, row), row)
        self.assertEqual(all_alike(O, row), [row])
        self.assertEqual(many_alike(O, row * 2), 1)
        self.assertEqual(layers(O, row), tuple((work,) for work in row))
        self.assertEqual(all_alike(ALONE, (0,) * 8), [(0,) * 8])
        self.assertEqual(many_alike(ALONE, (0,) * 20), 1)
        self.assertEqual(layers(ALONE, (0,) * 60), ((0,),) * 60)

    def test_all_apart(self):
        row = (5, 4, 3, 2, 1, 0)
        self.assertEqual(least_row(SIX, row), (0, 1, 2, 3, 4, 5))
        self.assertEqual(many_alike(SIX, row), 720)
        self.assertEqual(len(all_alike(SIX, row)), 720)
        self.assertEqual(layers(SIX, row), ((0, 1, 2, 3, 4, 5),))
        self.assertEqual(exchanges(SIX, row, (0, 1, 2, 3, 4, 5)), 15)


class Layers(unittest.TestCase):
    def right(self, office, row):
        found = layers(office, row)
        self.assertIs(type(found), tuple)
        flat = tuple(work for layer in found for work in layer)
        self.assertIs(alike(office, flat, row), True)
        for layer in found:
            self.assertIs(type(layer), tuple)
            self.assertTrue(layer)
            self.assertEqual(list(layer), sorted(set(layer)))
            for one in layer:
                self.assertFalse([other for other in layer if other != one and meeting(office, one, other)])
        for ahead, layer in zip(found, found[1:]):
            for work in layer:
                self.assertTrue([other for other in ahead if meeting(office, other, work)])

    def test_by_words(self):
        for office in SMALL:
            for row in rows_to(office, 4):
                self.right(office, row)
        for office in SMALL + LARGE:
            for seed in range(3):
                self.right(office, long_row(office, 60, seed))

    def test_layers_of_alike_rows(self):
        self.assertEqual(layers(F, (1, 0, 2)), ((0, 1), (2,)))
        self.assertEqual(layers(F, (0, 2, 1, 0, 0)), ((0,), (2,), (0, 1), (0,)))
        for other in all_alike(F, (0, 1, 0, 2, 1, 1)):
            self.assertEqual(layers(F, other), layers(F, (0, 1, 0, 2, 1, 1)))


class TooLong(unittest.TestCase):
    def too_many(self, function, row, most):
        with self.assertRaises(TooMany) as caught:
            function(F, row)
        self.assertEqual(caught.exception.most, most)
        self.assertIs(type(caught.exception), TooMany)

    def test_eight_and_nine(self):
        self.assertEqual(len(all_alike(F, (0, 1) * 4)), 70)
        self.too_many(all_alike, (0, 1) * 4 + (0,), 8)
        self.too_many(all_alike, (2,) * 60, 8)
        self.assertEqual(len(all_alike(SIX, (0, 1, 2, 3, 4, 5, 0, 1))), 10080)

    def test_twenty_and_twenty_one(self):
        self.assertEqual(many_alike(F, (0, 1) * 10), 184756)
        self.too_many(many_alike, (0, 1) * 10 + (1,), 20)
        self.too_many(many_alike, (2,) * 60, 20)
        self.assertEqual(many_alike(SIX, (0, 1, 2, 3, 4, 5) * 3 + (0, 1)), factorial(20) // (24 ** 2 * 6 ** 4))

    def test_no_row_is_told_first(self):
        for function in (all_alike, many_alike):
            with self.assertRaises(NoRow):
                function(F, (0,) * 30 + (3,))
            with self.assertRaises(NoRow):
                function(F, [0] * 30)


class LongRows(unittest.TestCase):
    def test_sixty_works(self):
        for office in SMALL + LARGE:
            for seed in range(3):
                row = long_row(office, 60, seed)
                least = least_row(office, row)
                self.assertIs(is_row(office, least), True)
                self.assertIs(alike(office, row, least), True)
                self.assertIs(alike(office, least, row), True)
                self.assertLessEqual(least, row)
                self.assertEqual(least_row(office, least), least)
                many = exchanges(office, row, least)
                self.assertEqual(many, exchanges(office, least, row))
                self.assertEqual(many == 0, row == least)

    def test_least_rows_begin_with_least_rows(self):
        for office in SMALL + LARGE:
            least = least_row(office, long_row(office, 40, 5))
            for length in range(40):
                self.assertEqual(least_row(office, least[:length]), least[:length])
            for at in range(34):
                self.assertEqual(least_of(office, least[at:at + 6]), least[at:at + 6])

    def test_somewhat_longer(self):
        self.assertEqual(least_row(F, (1, 0) * 40), (0,) * 40 + (1,) * 40)
        self.assertEqual(exchanges(F, (1, 0) * 40, (0,) * 40 + (1,) * 40), 820)


class Lists(unittest.TestCase):
    def test_new_each_time(self):
        first = all_alike(F, (0, 1))
        first.clear()
        self.assertEqual(all_alike(F, (0, 1)), [(0, 1), (1, 0)])

    def test_equal_offices_give_equal_answers(self):
        other = Office(F.desks, F.works)
        self.assertEqual(all_alike(F, (1, 0, 1)), all_alike(other, (1, 0, 1)))


if __name__ == "__main__":
    unittest.main()
