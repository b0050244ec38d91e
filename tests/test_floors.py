"""Point 12.1: live floors."""

import unittest

from helper import (
    ALONE, C, Case, Chance, F, RING, SIX, STAR, W, doubled, even_books, long_row, lots_of, machine_by, odd_things,
    works_of
)
from latestword.books import is_even, told
from latestword.errors import NoDesk, NoLot, NothingDone, NotEven, NoWork
from latestword.floors import Floor
from latestword.knowing import may_tell
from latestword.machines import joined
from latestword.news import newer
from latestword.notes import blank_note, note


class Stop(Exception):
    pass


def led(book, row):
    floor = Floor(book)
    for work in row:
        floor.work(work)
    return floor


def all_of(floor):
    """All that a floor tells."""
    desks = range(floor.book.office.desks)
    return (
        floor.done(), floor.depth(), floor.told(), [floor.note(desk) for desk in desks],
        [floor.may(lot) for lot in lots_of(len(desks))],
        [floor.newer(one, other, desk) for one in desks for other in desks for desk in desks],
    )


class FloorCase(Case):
    def compare(self, floor, row):
        """The floor tells what whole rows tell."""
        book = floor.book
        desks = range(book.office.desks)
        self.short(floor, row)
        for desk in desks:
            self.assertEqual(floor.note(desk), note(book, row, desk))
        for lot in lots_of(book.office.desks):
            self.assertEqual(floor.may(lot), may_tell(book, row, lot))
        for one in desks:
            for other in desks:
                for desk in desks:
                    self.assertEqual(floor.newer(one, other, desk), newer(book.office, row, one, other, desk))

    def short(self, floor, row):
        self.assertEqual((floor.done(), floor.depth(), floor.told()), (row, len(row), told(floor.book, row)))


class Led(FloorCase):
    def test_some(self):
        floor = Floor(C)
        self.assertEqual((floor.done(), floor.depth(), floor.told()), ((), 0, 0))
        self.assertEqual([floor.note(desk) for desk in (0, 1)], [blank_note(C)] * 2)
        self.assertIs(floor.work(0), None)
        self.assertEqual((floor.done(), floor.depth(), floor.told()), ((0,), 1, 1))
        self.assertEqual((floor.may((1,)), floor.may((0,)), floor.may(())), ((0, 1), (1,), (0, 1)))
        self.assertEqual((floor.newer(0, 1, 0), floor.newer(1, 0, 0), floor.newer(0, 1, 1)), ("one", "other", "same"))
        self.assertIs(floor.back(), None)
        self.assertEqual((floor.done(), floor.depth(), floor.told()), ((), 0, 0))

    def test_behind_every_work(self):
        for seed, book in enumerate(even_books()):
            row = long_row(book.office, 12, seed)
            floor = Floor(book)
            for at, work in enumerate(row):
                self.compare(floor, row[:at])
                floor.work(work)
            self.compare(floor, row)

    def test_hundreds_of_works(self):
        six = joined(machine_by(SIX, (2,) * 6, 2))
        for book, length in ((C, 400), (joined(machine_by(STAR, (2, 2, 1, 3), 2)), 250), (six, 120)):
            row = long_row(book.office, length, 3)
            floor = led(book, row)
            self.short(floor, row)
            for desk in range(book.office.desks):
                self.assertEqual(floor.note(desk), note(book, row, desk))
            for lot in lots_of(book.office.desks)[::3]:
                self.assertEqual(floor.may(lot), may_tell(book, row, lot))
            for desk in range(book.office.desks):
                self.assertEqual(floor.newer(0, desk, 1), newer(book.office, row, 0, desk, 1))
            for left in reversed(range(length)):
                floor.back()
                if left % 50 == 0:
                    self.short(floor, row[:left])
            self.compare(floor, ())
            self.raises(NothingDone, floor.back)

    def test_thousands_of_works(self):
        book = joined(machine_by(ALONE, (4,), 2))
        floor = led(book, (0,) * 3000)
        self.short(floor, (0,) * 3000)
        self.assertEqual(floor.trying(lambda held: held.back()), None)
        self.assertEqual(floor.copy().depth(), 3000)


class Back(FloorCase):
    def test_back_to_the_first(self):
        row = (0, 2, 1, 0, 0, 2)
        floor = led(C, row)
        for left in (5, 4, 3, 2, 1, 0):
            floor.back()
            self.compare(floor, row[:left])
        for _ in range(2):
            self.raises(NothingDone, floor.back)
            self.compare(floor, ())
        self.raises(NothingDone, Floor(C).back)

    def test_work_behind_back(self):
        floor = led(C, (0, 2, 0))
        floor.back()
        floor.back()
        floor.work(1)
        floor.work(2)
        self.compare(floor, (0, 1, 2))
        floor.back()
        floor.back()
        floor.back()
        self.compare(floor, ())
        floor.work(2)
        self.compare(floor, (2,))

    def test_courses(self):
        for seed, book in enumerate(even_books()):
            chance = Chance(seed)
            floor = Floor(book)
            row = ()
            for _ in range(40):
                if chance.below(5) < 2:
                    if row:
                        floor.back()
                        row = row[:-1]
                    else:
                        self.raises(NothingDone, floor.back)
                else:
                    row += (chance.below(len(book.office.works)),)
                    floor.work(row[-1])
                self.short(floor, row)
                desk = chance.below(book.office.desks)
                self.assertEqual(floor.note(desk), note(book, row, desk))
            self.compare(floor, row)


class Copies(FloorCase):
    def test_copies_go_on_apart(self):
        floor = led(C, (0, 2, 1))
        other = floor.copy()
        self.assertIsInstance(other, Floor)
        self.compare(other, (0, 2, 1))
        other.work(0)
        floor.back()
        self.compare(other, (0, 2, 1, 0))
        self.compare(floor, (0, 2))
        floor.work(2)
        self.compare(other, (0, 2, 1, 0))
        self.compare(floor, (0, 2, 2))

    def test_copies_go_back_likewise(self):
        floor = led(C, (0, 2, 1))
        other = floor.copy()
        for left in ((0, 2), (0,), ()):
            other.back()
            self.compare(other, left)
        self.raises(NothingDone, other.back)
        self.compare(floor, (0, 2, 1))

    def test_copies_of_copies(self):
        floor = led(C, (0,))
        floors = [floor]
        for work in (1, 2, 0, 2):
            floors.append(floors[-1].copy())
            floors[-1].work(work)
        for at, held in enumerate(floors):
            self.compare(held, (0, 1, 2, 0, 2)[:at + 1])


class Trying(FloorCase):
    def test_what_action_returns(self):
        floor = led(C, (0, 2))
        for thing in (None, 0, "", [1], (0, 1), floor, Stop):
            self.assertIs(floor.trying(lambda held: thing), thing)
            self.compare(floor, (0, 2))

    def test_action_is_given_the_floor(self):
        floor = led(C, (0, 2))
        self.assertIs(floor.trying(lambda held: held), floor)

    def test_works(self):
        floor = led(C, (0, 2))

        def action(held):
            held.work(0)
            held.work(1)
            self.compare(held, (0, 2, 0, 1))
            return held.told()

        self.assertEqual(floor.trying(action), told(C, (0, 2, 0, 1)))
        self.compare(floor, (0, 2))
        floor.back()
        self.compare(floor, (0,))

    def test_goes_back(self):
        floor = led(C, (0, 2, 1))

        def action(held):
            held.back()
            held.back()
            held.back()
            held.work(2)
            self.compare(held, (2,))
            self.assertEqual(held.depth(), 1)

        self.assertIs(floor.trying(action), None)
        self.compare(floor, (0, 2, 1))
        for left in ((0, 2), (0,), ()):
            floor.back()
            self.compare(floor, left)

    def test_goes_back_too_far(self):
        floor = led(C, (0,))

        def action(held):
            held.back()
            held.back()

        self.raises(NothingDone, floor.trying, action)
        self.compare(floor, (0,))

    def test_copies(self):
        floor = led(C, (0, 2))

        def action(held):
            held.work(1)
            other = held.copy()
            other.work(0)
            return other

        other = floor.trying(action)
        self.compare(floor, (0, 2))
        self.compare(other, (0, 2, 1, 0))
        other.back()
        self.compare(other, (0, 2, 1))
        floor.work(0)
        self.compare(floor, (0, 2, 0))
        self.compare(other, (0, 2, 1))

    def test_errors_go_on(self):
        floor = led(C, (0, 2))
        for error in (Stop, ValueError, KeyboardInterrupt, SystemExit, GeneratorExit, NoWork):
            raised = error()

            def action(held):
                held.back()
                held.work(1)
                raise raised

            with self.assertRaises(error) as caught:
                floor.trying(action)
            self.assertIs(caught.exception, raised)
            self.compare(floor, (0, 2))

    def test_errors_of_the_floor_go_on(self):
        floor = led(C, (0, 2))

        def action(held):
            held.work(1)
            held.work(3)

        self.raises(NoWork, floor.trying, action)
        self.compare(floor, (0, 2))

    def test_errors_that_action_catches(self):
        floor = led(C, (0,))

        def action(held):
            try:
                held.work(9)
            except NoWork:
                held.work(2)
            return held.done()

        self.assertEqual(floor.trying(action), (0, 2))
        self.compare(floor, (0,))

    def test_trying_in_trying(self):
        floor = led(C, (0,))

        def inner(held):
            held.work(2)
            held.work(1)
            raise Stop

        def action(held):
            held.work(1)
            with self.assertRaises(Stop):
                held.trying(inner)
            self.compare(held, (0, 1))
            self.assertEqual(held.trying(lambda own: (own.back(), own.back(), own.done())[-1]), ())
            self.compare(held, (0, 1))
            held.work(0)
            return held.done()

        self.assertEqual(floor.trying(action), (0, 1, 0))
        self.compare(floor, (0,))

    def test_other_floors_in_trying(self):
        floor = led(C, (0,))
        other = led(C, (1,))

        def action(held):
            held.work(2)
            other.work(0)
            return other.trying(lambda own: (own.work(2), held.work(1), held.done()))

        self.assertEqual(floor.trying(action), (None, None, (0, 2, 1)))
        self.compare(floor, (0,))
        self.compare(other, (1, 0))

    def test_again_and_again(self):
        floor = led(C, (0,))
        for many in range(5):
            floor.trying(lambda held: [held.work(2) for _ in range(many)])
            self.compare(floor, (0,) + (1,) * many)
            floor.work(1)


class Errors(FloorCase):
    def test_not_even(self):
        for book in (W, doubled(C, 2)):
            self.assertFalse(is_even(book))
            self.raises(NotEven, Floor, book)

    def test_refused_calls_change_nothing(self):
        floor = led(C, (0, 2, 1))
        kept = all_of(floor)
        for thing in odd_things() + [3, -1]:
            if not (type(thing) is int and 0 <= thing < 3):
                self.raises(NoWork, floor.work, thing)
            if not (type(thing) is int and 0 <= thing < 2):
                self.raises(NoDesk, floor.note, thing)
                self.raises(NoDesk, floor.newer, thing, 0, 1)
                self.raises(NoDesk, floor.newer, 0, thing, 1)
                self.raises(NoDesk, floor.newer, 1, 0, thing)
                self.raises(NoDesk, floor.newer, thing, thing, None)
            if not (type(thing) is tuple and thing in ((), (0,), (1,), (0, 1)) and not any(
                    isinstance(part, bool) for part in thing)):
                self.raises(NoLot, floor.may, thing)
        self.assertEqual(all_of(floor), kept)
        self.compare(floor, (0, 2, 1))

    def test_books_stay_as_they_were(self):
        book = joined(machine_by(RING, (2, 1, 2, 2), 2))
        kept = book.office.desks, book.office.works, book.telling, book.steps
        floor = led(book, tuple(works_of(RING)) * 3)
        floor.trying(lambda held: held.work(0))
        floor.back()
        self.assertEqual((book.office.desks, book.office.works, book.telling, book.steps), kept)

    def test_floors_are_equal_to_nothing_else(self):
        self.assertFalse(Floor(C) == C)
        self.assertFalse(Floor(C) == ())
        self.assertFalse(C == Floor(C))
        self.assertFalse(F == Floor(C))


if __name__ == "__main__":
    unittest.main()
