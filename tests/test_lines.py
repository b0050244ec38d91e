"""Points 18.1 to 18.3: a line, letter by letter."""

import unittest

from helper import C, Case, F, LARGE, SMALL, W, adding_book, book_by, doubled, even_books, odd_things
from latestword.books import Book, is_even, told
from latestword.errors import IsDown, IsUp, NoDesk, NoGoals, NoLetter, NoMatch, NotEven, NoWork
from latestword.lines import Line
from latestword.notes import blank_note, note
from latestword.offices import Office

# The work 0 is done by all desks, 1 by the desks 1 and 2, 2 by desk 2 alone, 3 by 0 and 1, 4 by 0 alone, 5 by 1 alone.
T = Office(3, ((0, 1, 2), (1, 2), (2,), (0, 1), (0,), (1,)))
ADDS = (1, 2, 3, 5, 7, 11)
B = adding_book(T, 12, ADDS)
HALF = adding_book(T, 6, tuple(add % 6 for add in ADDS))
THIRD = adding_book(T, 3, tuple(add % 3 for add in ADDS))
TO_HALF = tuple(standing % 6 for standing in range(12))
TO_THIRD = tuple(standing % 3 for standing in range(6))
EDITIONS = (B, HALF, THIRD)


def all_of(line):
    """All that a line tells."""
    desks = range(line.office.desks)
    return (
        line.letters(), line.done(), [line.state(desk) for desk in desks], [line.note(desk) for desk in desks],
        [line.journal(desk) for desk in desks], line.told(),
    )


class LineCase(Case):
    def setUp(self):
        self.line = Line(B)

    def air(self):
        """The letters in the air, without their numbers."""
        return [letter[1:] for letter in self.line.letters()]

    def numbers(self):
        return [letter[0] for letter in self.line.letters()]

    def bring(self, *letter):
        """Brings the first letter with this word, sender, goal and turn."""
        number = [own[0] for own in self.line.letters() if own[1:] == letter][0]
        self.assertIs(self.line.bring(number), None)

    def lose(self, *letter):
        number = [own[0] for own in self.line.letters() if own[1:] == letter][0]
        self.assertIs(self.line.lose(number), None)

    def double(self, *letter):
        return self.line.double([own[0] for own in self.line.letters() if own[1:] == letter][0])

    def sends(self, *letters):
        """Just these letters are in the air."""
        self.assertEqual(self.air(), list(letters))

    def is_free(self, *desks):
        for desk in desks:
            self.assertEqual(self.line.state(desk)[2:], ("free", None, None))

    def is_bound(self, desk, word, turn, work):
        self.assertEqual(self.line.state(desk)[2:], (word, turn, work))

    def has_done(self, *row):
        self.assertEqual(self.line.done(), row)

    def version(self, desk, edition, row):
        self.assertEqual(self.line.state(desk)[1], edition)
        self.assertEqual(self.line.note(desk), note(EDITIONS[edition], row, desk))

    def do(self, work):
        """Calls a work, and brings all letters."""
        self.assertIn(self.line.call(work), ("done", "called"))
        self.line.settle()

    def nothing_happens(self, function, *arguments):
        kept = all_of(self.line)
        result = function(*arguments)
        self.assertEqual(all_of(self.line), kept)
        return result


class AtFirst(LineCase):
    def test_a_new_line(self):
        for book in even_books() + [B, C]:
            line = Line(book)
            for desk in range(book.office.desks):
                self.assertEqual(line.state(desk), (True, 0, "free", None, None))
                self.assertEqual((line.note(desk), line.journal(desk)), (blank_note(book), ()))
            self.assertEqual((line.letters(), line.done(), line.told()), ([], (), book.telling[0]))
            self.assertEqual(line.settle(), 0)

    def test_not_even(self):
        for book in (W, doubled(C, 2)):
            self.assertFalse(is_even(book))
            self.raises(NotEven, Line, book)

    def test_kinds(self):
        self.assertIs(type(self.line.letters()), list)
        self.line.call(0)
        self.assertEqual([type(letter) for letter in self.line.letters()], [tuple, tuple])
        for thing in (self.line.done(), self.line.state(0), self.line.note(0), self.line.journal(0)):
            self.assertIs(type(thing), tuple)
        self.assertIs(type(self.line.state(0)[0]), bool)
        self.line.letters().clear()
        self.assertEqual(len(self.line.letters()), 2)

    def test_equal_to_nothing_else(self):
        self.assertFalse(self.line == B)
        self.assertFalse(B == self.line)
        self.assertFalse(self.line == ())


class Called(LineCase):
    def test_alone(self):
        self.assertEqual(self.line.call(2), "done")
        self.sends()
        self.is_free(0, 1, 2)
        self.has_done(2)
        self.assertEqual(self.line.journal(2), ((2, 1, 2),))
        self.version(2, 0, (2,))
        self.version(0, 0, ())
        self.assertEqual(self.line.call(2), "done")
        self.assertEqual(self.line.journal(2), ((2, 1, 2), (2, 2, 2)))
        self.has_done(2, 2)
        self.assertEqual(self.line.told(), told(B, (2, 2)))

    def test_with_others(self):
        self.assertEqual(self.line.call(0), "called")
        self.assertEqual(self.line.letters(), [(0, "come", 0, 1, 1), (1, "come", 0, 2, 1)])
        self.is_bound(0, "leads", 1, 0)
        self.is_free(1, 2)
        self.has_done()
        self.assertIs(self.line.told(), None)

    def test_down(self):
        self.line.fall(1)
        self.assertEqual(self.nothing_happens(self.line.call, 1), "down")
        self.assertEqual(self.nothing_happens(self.line.call, 5), "down")
        self.assertEqual(self.line.call(3), "called")
        self.line.rise(1)
        self.assertEqual(self.line.call(5), "done")
        self.assertEqual(self.line.journal(1), ((1, 1, 5),))

    def test_bound(self):
        self.line.call(0)
        for work in (0, 3, 4):
            self.assertEqual(self.nothing_happens(self.line.call, work), "bound")
        self.bring("come", 0, 1, 1)
        for work in (1, 5):
            self.assertEqual(self.nothing_happens(self.line.call, work), "bound")
        self.assertEqual(self.line.call(2), "done")

    def test_down_and_bound(self):
        self.line.call(0)
        self.bring("come", 0, 1, 1)
        self.line.fall(0)
        self.line.fall(1)
        self.assertEqual(self.nothing_happens(self.line.call, 0), "down")
        self.assertEqual(self.nothing_happens(self.line.call, 4), "down")
        self.assertEqual(self.nothing_happens(self.line.call, 1), "down")
        self.assertEqual(self.line.state(0), (False, 0, "leads", 1, 0))
        self.assertEqual(self.line.state(1), (False, 0, "promised", 1, 0))

    def test_turns_of_each_leader(self):
        for work in (4, 5, 2, 4, 3, 1, 0):
            self.do(work)
        self.assertEqual(self.line.journal(0), ((0, 1, 4), (0, 2, 4), (0, 3, 3), (0, 4, 0)))
        self.assertEqual(self.line.journal(1), ((1, 1, 5), (0, 3, 3), (1, 2, 1), (0, 4, 0)))
        self.assertEqual(self.line.journal(2), ((2, 1, 2), (1, 2, 1), (0, 4, 0)))
        self.has_done(4, 5, 2, 4, 3, 1, 0)
        self.assertEqual(self.line.told(), told(B, (4, 5, 2, 4, 3, 1, 0)))

    def test_refused_calls_use_no_turn(self):
        self.line.call(3)
        self.line.call(4)
        self.line.call(0)
        self.line.settle()
        self.line.fall(0)
        self.line.call(4)
        self.line.rise(0)
        self.line.call(4)
        self.assertEqual(self.line.journal(0), ((0, 1, 3), (0, 2, 4)))

    def test_no_work(self):
        for thing in odd_things() + [6, -1]:
            if not (type(thing) is int and 0 <= thing < 6):
                self.raises(NoWork, self.nothing_happens, self.line.call, thing)


class Come(LineCase):
    def test_a_free_desk(self):
        self.line.call(0)
        self.bring("come", 0, 2, 1)
        self.sends(("come", 0, 1, 1), ("here", 2, 0, 1))
        self.is_bound(2, "promised", 1, 0)
        self.is_free(1)

    def test_once_more(self):
        self.line.call(0)
        self.double("come", 0, 1, 1)
        self.bring("come", 0, 1, 1)
        self.bring("come", 0, 1, 1)
        self.sends(("come", 0, 2, 1), ("here", 1, 0, 1), ("here", 1, 0, 1))
        self.is_bound(1, "promised", 1, 0)

    def test_a_desk_that_is_promised_to_another(self):
        self.line.call(1)
        self.bring("come", 1, 2, 1)
        self.line.call(0)
        self.bring("come", 0, 2, 1)
        self.sends(("here", 2, 1, 1), ("come", 0, 1, 1), ("busy", 2, 0, 1))
        self.is_bound(2, "promised", 1, 1)

    def test_a_desk_that_leads(self):
        self.line.call(1)
        self.line.call(3)
        self.bring("come", 0, 1, 1)
        self.sends(("come", 1, 2, 1), ("busy", 1, 0, 1))
        self.is_bound(1, "leads", 1, 1)

    def test_who_is_busy_has_not_heard(self):
        self.line.call(1)
        self.line.call(3)
        self.double("come", 0, 1, 1)
        self.bring("come", 0, 1, 1)
        self.lose("busy", 1, 0, 1)
        self.bring("come", 1, 2, 1)
        self.bring("here", 2, 1, 1)
        self.is_free(1)
        self.bring("come", 0, 1, 1)
        self.is_bound(1, "promised", 1, 3)

    def test_late_behind_done(self):
        self.line.call(3)
        self.double("come", 0, 1, 1)
        self.bring("come", 0, 1, 1)
        self.bring("here", 1, 0, 1)
        self.bring("done", 0, 1, 1)
        self.is_free(0, 1)
        self.sends(("come", 0, 1, 1))
        self.bring("come", 0, 1, 1)
        self.sends()
        self.is_free(1)

    def test_late_behind_off(self):
        self.line.call(3)
        self.double("come", 0, 1, 1)
        self.line.fall(0)
        self.line.rise(0)
        self.bring("off", 0, 1, 1)
        self.bring("come", 0, 1, 1)
        self.is_free(1)
        self.sends(("come", 0, 1, 1))

    def test_late_of_an_elder_turn(self):
        self.line.call(3)
        first = self.double("come", 0, 1, 1)
        self.bring("come", 0, 1, 1)
        self.bring("here", 1, 0, 1)
        self.bring("done", 0, 1, 1)
        self.line.call(3)
        self.bring("come", 0, 1, 2)
        self.is_bound(1, "promised", 2, 3)
        self.line.bring(first)
        self.sends(("here", 1, 0, 2))
        self.is_bound(1, "promised", 2, 3)

    def test_a_later_turn_while_promised_for_an_elder_one(self):
        self.line.call(3)
        self.bring("come", 0, 1, 1)
        self.line.fall(0)
        self.line.rise(0)
        self.lose("off", 0, 1, 1)
        self.line.call(3)
        self.bring("come", 0, 1, 2)
        self.sends(("here", 1, 0, 1), ("busy", 1, 0, 2))
        self.is_bound(1, "promised", 1, 3)

    def test_ended_before_it_came(self):
        """It promises itself, and is told how the turn ended."""
        self.line.call(3)
        self.line.fall(0)
        self.line.rise(0)
        self.bring("come", 0, 1, 1)
        self.is_bound(1, "promised", 1, 3)
        self.bring("here", 1, 0, 1)
        self.sends(("off", 0, 1, 1), ("off", 0, 1, 1))
        self.bring("off", 0, 1, 1)
        self.is_free(1)

    def test_turns_of_other_leaders_are_others(self):
        self.do(3)
        self.line.call(1)
        self.bring("come", 1, 2, 1)
        self.is_bound(2, "promised", 1, 1)
        self.line.settle()
        self.line.call(0)
        self.bring("come", 0, 2, 2)
        self.is_bound(2, "promised", 2, 0)

    def test_a_turn_of_one_leader_while_promised_for_the_same_turn_of_another(self):
        self.line.call(1)
        self.bring("come", 1, 2, 1)
        self.line.call(0)
        self.double("come", 0, 2, 1)
        self.bring("come", 0, 2, 1)
        self.bring("come", 0, 2, 1)
        self.sends(("here", 2, 1, 1), ("come", 0, 1, 1), ("busy", 2, 0, 1), ("busy", 2, 0, 1))

    def test_at_a_desk_that_is_down(self):
        self.line.call(0)
        self.line.fall(1)
        self.bring("come", 0, 1, 1)
        self.sends(("come", 0, 2, 1))
        self.line.rise(1)
        self.is_free(1)


class Here(LineCase):
    def test_of_all_desks(self):
        self.do(4)
        self.line.call(0)
        self.bring("come", 0, 1, 2)
        self.bring("come", 0, 2, 2)
        self.bring("here", 2, 0, 2)
        self.is_bound(0, "leads", 2, 0)
        self.sends(("here", 1, 0, 2))
        self.has_done(4)
        self.bring("here", 1, 0, 2)
        self.sends(("done", 0, 1, 2), ("done", 0, 2, 2))
        self.has_done(4, 0)
        self.is_free(0)
        self.is_bound(1, "promised", 2, 0)
        self.is_bound(2, "promised", 2, 0)
        self.assertEqual(self.line.journal(0), ((0, 1, 4), (0, 2, 0)))
        self.assertEqual(self.line.journal(1), ())
        self.version(0, 0, (4, 0))
        self.version(1, 0, ())
        self.assertIs(self.line.told(), None)

    def test_twice_of_one_desk(self):
        self.line.call(0)
        self.bring("come", 0, 1, 1)
        self.double("here", 1, 0, 1)
        self.bring("here", 1, 0, 1)
        self.bring("here", 1, 0, 1)
        self.is_bound(0, "leads", 1, 0)
        self.has_done()
        self.sends(("come", 0, 2, 1))

    def test_late_behind_done(self):
        self.line.call(3)
        self.bring("come", 0, 1, 1)
        self.double("here", 1, 0, 1)
        self.bring("here", 1, 0, 1)
        self.bring("here", 1, 0, 1)
        self.sends(("done", 0, 1, 1), ("done", 0, 1, 1))
        self.has_done(3)

    def test_late_behind_off(self):
        self.line.call(0)
        self.bring("come", 0, 1, 1)
        self.line.fall(0)
        self.line.rise(0)
        self.bring("here", 1, 0, 1)
        self.sends(("come", 0, 2, 1), ("off", 0, 1, 1), ("off", 0, 2, 1), ("off", 0, 1, 1))
        self.has_done()

    def test_late_while_it_leads_a_later_turn(self):
        self.line.call(3)
        self.bring("come", 0, 1, 1)
        self.double("here", 1, 0, 1)
        self.bring("here", 1, 0, 1)
        self.bring("done", 0, 1, 1)
        self.line.call(3)
        self.bring("here", 1, 0, 1)
        self.sends(("come", 0, 1, 2), ("done", 0, 1, 1))
        self.is_bound(0, "leads", 2, 3)
        self.has_done(3)
        self.bring("done", 0, 1, 1)
        self.is_free(1)
        self.assertEqual(len(self.line.journal(1)), 1)

    def test_late_while_it_is_promised(self):
        self.line.call(1)
        self.bring("come", 1, 2, 1)
        self.double("here", 2, 1, 1)
        self.bring("here", 2, 1, 1)
        self.line.call(3)
        self.bring("come", 0, 1, 1)
        self.is_bound(1, "promised", 1, 3)
        self.bring("here", 2, 1, 1)
        self.sends(("done", 1, 2, 1), ("here", 1, 0, 1), ("done", 1, 2, 1))

    def test_done_is_told_as_it_was_then(self):
        self.line.call(3)
        self.bring("come", 0, 1, 1)
        self.double("here", 1, 0, 1)
        self.bring("here", 1, 0, 1)
        self.lose("done", 0, 1, 1)
        for _ in range(3):
            self.line.call(4)
        self.bring("here", 1, 0, 1)
        self.bring("done", 0, 1, 1)
        self.version(1, 0, (3,))
        self.has_done(3, 4, 4, 4)

    def test_a_leader_that_fell_has_forgotten(self):
        self.line.call(0)
        self.bring("come", 0, 1, 1)
        self.bring("here", 1, 0, 1)
        self.line.fall(0)
        self.bring("come", 0, 2, 1)
        self.bring("here", 2, 0, 1)
        self.sends()
        self.line.rise(0)
        self.sends(("off", 0, 1, 1), ("off", 0, 2, 1))
        self.has_done()


class Busy(LineCase):
    def test_at_the_leader(self):
        self.line.call(1)
        self.bring("come", 1, 2, 1)
        self.line.call(0)
        self.bring("come", 0, 2, 1)
        self.bring("busy", 2, 0, 1)
        self.sends(("here", 2, 1, 1), ("come", 0, 1, 1), ("off", 0, 1, 1), ("off", 0, 2, 1))
        self.is_free(0)
        self.bring("off", 0, 2, 1)
        self.is_bound(2, "promised", 1, 1)
        self.line.call(4)
        self.assertEqual(self.line.journal(0), ((0, 2, 4),))

    def test_those_that_were_here_are_free_again(self):
        self.line.call(0)
        self.bring("come", 0, 1, 1)
        self.bring("here", 1, 0, 1)
        self.line.call(2)
        self.assertEqual(self.line.state(2)[2], "free")
        self.bring("come", 0, 2, 1)
        self.lose("here", 2, 0, 1)
        self.line.again(0)
        self.sends(("come", 0, 2, 1))
        self.bring("come", 0, 2, 1)
        self.bring("here", 2, 0, 1)
        self.has_done(2, 0)

    def test_late(self):
        self.line.call(1)
        self.line.call(3)
        self.double("come", 0, 1, 1)
        self.bring("come", 0, 1, 1)
        self.bring("come", 0, 1, 1)
        self.bring("busy", 1, 0, 1)
        self.sends(("come", 1, 2, 1), ("busy", 1, 0, 1), ("off", 0, 1, 1))
        self.bring("busy", 1, 0, 1)
        self.sends(("come", 1, 2, 1), ("off", 0, 1, 1))
        self.is_free(0)

    def test_of_an_elder_turn(self):
        self.line.call(1)
        self.line.call(3)
        self.double("come", 0, 1, 1)
        self.bring("come", 0, 1, 1)
        self.bring("come", 0, 1, 1)
        self.bring("busy", 1, 0, 1)
        self.line.call(3)
        self.bring("busy", 1, 0, 1)
        self.is_bound(0, "leads", 2, 3)

    def test_behind_done(self):
        """A desk that was busy, and then free and here for the same turn."""
        self.line.call(1)
        self.line.call(3)
        self.double("come", 0, 1, 1)
        self.bring("come", 0, 1, 1)
        self.bring("come", 1, 2, 1)
        self.bring("here", 2, 1, 1)
        self.bring("come", 0, 1, 1)
        self.bring("here", 1, 0, 1)
        self.has_done(1, 3)
        self.bring("busy", 1, 0, 1)
        self.sends(("done", 1, 2, 1), ("done", 0, 1, 1))


class Done(LineCase):
    def test_at_a_promised_desk(self):
        self.do(5)
        self.line.call(3)
        self.bring("come", 0, 1, 1)
        self.bring("here", 1, 0, 1)
        self.version(1, 0, (5,))
        self.bring("done", 0, 1, 1)
        self.version(1, 0, (5, 3))
        self.is_free(1)
        self.sends()
        self.assertEqual(self.line.journal(1), ((1, 1, 5), (0, 1, 3)))
        self.assertEqual(self.line.told(), told(B, (5, 3)))

    def test_twice(self):
        self.line.call(3)
        self.bring("come", 0, 1, 1)
        self.bring("here", 1, 0, 1)
        self.double("done", 0, 1, 1)
        self.bring("done", 0, 1, 1)
        self.line.call(5)
        self.bring("done", 0, 1, 1)
        self.assertEqual(self.line.journal(1), ((0, 1, 3), (1, 1, 5)))
        self.version(1, 0, (3, 5))

    def test_of_an_elder_turn(self):
        self.line.call(3)
        self.bring("come", 0, 1, 1)
        self.bring("here", 1, 0, 1)
        self.double("done", 0, 1, 1)
        self.bring("done", 0, 1, 1)
        self.line.call(3)
        self.bring("come", 0, 1, 2)
        self.bring("done", 0, 1, 1)
        self.is_bound(1, "promised", 2, 3)
        self.assertEqual(self.line.journal(1), ((0, 1, 3),))
        self.sends(("here", 1, 0, 2))

    def test_of_another_leader(self):
        """The turn 1 of leader 0 is done, while the desk has promised itself for the turn 1 of leader 1."""
        self.line.call(0)
        self.bring("come", 0, 1, 1)
        self.bring("come", 0, 2, 1)
        self.bring("here", 1, 0, 1)
        self.bring("here", 2, 0, 1)
        self.double("done", 0, 2, 1)
        self.bring("done", 0, 1, 1)
        self.bring("done", 0, 2, 1)
        self.line.call(1)
        self.bring("come", 1, 2, 1)
        self.bring("done", 0, 2, 1)
        self.is_bound(2, "promised", 1, 1)
        self.assertEqual(self.line.journal(2), ((0, 1, 0),))

    def test_at_a_desk_that_is_down(self):
        self.line.call(3)
        self.bring("come", 0, 1, 1)
        self.bring("here", 1, 0, 1)
        self.line.fall(1)
        self.bring("done", 0, 1, 1)
        self.assertEqual(self.line.state(1), (False, 0, "promised", 1, 3))
        self.line.rise(1)
        self.sends(("what", 1, 0, 1))
        self.bring("what", 1, 0, 1)
        self.bring("done", 0, 1, 1)
        self.version(1, 0, (3,))


class Off(LineCase):
    def test_at_a_promised_desk(self):
        self.line.call(3)
        self.bring("come", 0, 1, 1)
        self.line.fall(0)
        self.line.rise(0)
        self.bring("off", 0, 1, 1)
        self.is_free(1)
        self.assertEqual(self.line.journal(1), ())

    def test_ahead_of_come(self):
        self.line.call(0)
        self.line.fall(0)
        self.line.rise(0)
        self.bring("off", 0, 1, 1)
        self.bring("come", 0, 1, 1)
        self.sends(("come", 0, 2, 1), ("off", 0, 2, 1))
        self.is_free(1)
        self.line.call(0)
        self.bring("come", 0, 1, 2)
        self.is_bound(1, "promised", 2, 0)

    def test_of_an_elder_turn_while_promised(self):
        self.line.call(3)
        self.line.fall(0)
        self.line.rise(0)
        self.line.call(3)
        self.bring("come", 0, 1, 2)
        self.bring("off", 0, 1, 1)
        self.is_bound(1, "promised", 2, 3)

    def test_what_was_heard_later_stays_heard(self):
        self.line.call(3)
        self.line.fall(0)
        self.line.rise(0)
        self.line.call(3)
        self.double("come", 0, 1, 2)
        self.bring("come", 0, 1, 2)
        self.bring("here", 1, 0, 2)
        self.bring("done", 0, 1, 2)
        self.bring("off", 0, 1, 1)
        self.bring("come", 0, 1, 2)
        self.bring("come", 0, 1, 1)
        self.is_free(1)
        self.sends()

    def test_of_a_later_turn_than_was_heard(self):
        self.do(3)
        self.line.call(3)
        self.line.fall(0)
        self.line.rise(0)
        self.bring("off", 0, 1, 2)
        self.bring("come", 0, 1, 2)
        self.is_free(1)
        self.sends()

    def test_while_bound_for_another(self):
        """It has heard of the turn, and stays bound."""
        self.line.call(1)
        self.line.call(3)
        self.line.fall(0)
        self.line.rise(0)
        self.bring("off", 0, 1, 1)
        self.is_bound(1, "leads", 1, 1)
        self.bring("come", 0, 1, 1)
        self.sends(("come", 1, 2, 1))

    def test_of_another_leader_with_the_same_turn(self):
        self.line.call(0)
        self.line.fall(0)
        self.line.rise(0)
        self.line.call(1)
        self.bring("come", 1, 2, 1)
        self.bring("off", 0, 2, 1)
        self.is_bound(2, "promised", 1, 1)


class What(LineCase):
    def promised(self):
        self.line.call(3)
        self.bring("come", 0, 1, 1)

    def test_while_it_leads(self):
        self.promised()
        self.assertEqual(self.line.again(1), 1)
        self.bring("what", 1, 0, 1)
        self.sends(("here", 1, 0, 1))
        self.is_bound(0, "leads", 1, 3)

    def test_behind_done(self):
        self.promised()
        self.bring("here", 1, 0, 1)
        self.lose("done", 0, 1, 1)
        self.line.again(1)
        self.line.call(4)
        self.bring("what", 1, 0, 1)
        self.sends(("done", 0, 1, 1))
        self.bring("done", 0, 1, 1)
        self.version(1, 0, (3,))

    def test_behind_off(self):
        self.promised()
        self.line.fall(0)
        self.line.rise(0)
        self.lose("off", 0, 1, 1)
        self.lose("here", 1, 0, 1)
        self.line.again(1)
        self.bring("what", 1, 0, 1)
        self.sends(("off", 0, 1, 1))
        self.bring("off", 0, 1, 1)
        self.is_free(1)

    def test_while_it_leads_a_later_turn(self):
        self.promised()
        self.bring("here", 1, 0, 1)
        self.lose("done", 0, 1, 1)
        self.line.call(0)
        self.line.again(1)
        self.bring("what", 1, 0, 1)
        self.assertIn(("done", 0, 1, 1), self.air())
        self.is_bound(0, "leads", 2, 0)

    def test_at_a_desk_that_is_down(self):
        self.promised()
        self.line.again(1)
        self.line.fall(0)
        self.bring("what", 1, 0, 1)
        self.sends(("here", 1, 0, 1))


class FallAndRise(LineCase):
    def test_up_and_down(self):
        self.assertIs(self.line.fall(1), None)
        self.assertEqual(self.line.state(1), (False, 0, "free", None, None))
        self.assertIs(self.line.rise(1), None)
        self.assertEqual(self.line.state(1), (True, 0, "free", None, None))
        self.sends()

    def test_what_a_desk_keeps(self):
        self.do(3)
        self.do(5)
        self.line.call(0)
        self.bring("come", 0, 1, 2)
        kept = self.line.note(1), self.line.journal(1)
        self.line.fall(1)
        self.assertEqual((self.line.note(1), self.line.journal(1)), kept)
        self.assertEqual(self.line.state(1), (False, 0, "promised", 2, 0))
        self.line.rise(1)
        self.assertEqual((self.line.note(1), self.line.journal(1)), kept)
        self.is_bound(1, "promised", 2, 0)

    def test_what_it_has_heard_is_kept(self):
        self.line.call(3)
        self.double("come", 0, 1, 1)
        self.bring("come", 0, 1, 1)
        self.bring("here", 1, 0, 1)
        self.bring("done", 0, 1, 1)
        self.line.fall(1)
        self.line.rise(1)
        self.bring("come", 0, 1, 1)
        self.is_free(1)

    def test_its_turns_and_how_they_ended_are_kept(self):
        self.line.call(3)
        self.bring("come", 0, 1, 1)
        self.double("here", 1, 0, 1)
        self.bring("here", 1, 0, 1)
        self.lose("done", 0, 1, 1)
        self.line.fall(0)
        self.line.rise(0)
        self.bring("here", 1, 0, 1)
        self.sends(("done", 0, 1, 1))
        self.line.call(4)
        self.assertEqual(self.line.journal(0), ((0, 1, 3), (0, 2, 4)))

    def test_a_leader_gives_up_when_it_rises(self):
        self.line.call(0)
        self.line.fall(0)
        self.sends(("come", 0, 1, 1), ("come", 0, 2, 1))
        self.is_bound(0, "leads", 1, 0)
        self.line.rise(0)
        self.sends(("come", 0, 1, 1), ("come", 0, 2, 1), ("off", 0, 1, 1), ("off", 0, 2, 1))
        self.is_free(0)

    def test_a_promised_desk_asks_when_it_rises(self):
        self.line.call(0)
        self.bring("come", 0, 2, 1)
        self.line.fall(2)
        self.line.rise(2)
        self.sends(("come", 0, 1, 1), ("here", 2, 0, 1), ("what", 2, 0, 1))
        self.is_bound(2, "promised", 1, 0)

    def test_errors(self):
        self.raises(IsUp, self.line.rise, 1)
        self.line.fall(1)
        self.raises(IsDown, self.nothing_happens, self.line.fall, 1)
        self.line.rise(1)
        self.raises(IsUp, self.nothing_happens, self.line.rise, 1)
        for thing in odd_things() + [3, -1]:
            if not (type(thing) is int and 0 <= thing < 3):
                for function in (self.line.fall, self.line.rise, self.line.again, self.line.step_up, self.line.state,
                                 self.line.note, self.line.journal):
                    self.raises(NoDesk, self.nothing_happens, function, thing)

    def test_all_letters_are_lost_at_a_desk_that_is_down(self):
        self.line.call(0)
        self.bring("come", 0, 1, 1)
        self.line.again(1)
        self.line.fall(0)
        self.line.fall(2)
        for number in self.numbers():
            self.line.bring(number)
        self.sends()
        self.assertEqual([self.line.state(desk)[2] for desk in range(3)], ["leads", "promised", "free"])


class Again(LineCase):
    def test_a_leader(self):
        self.line.call(0)
        self.assertEqual(self.line.again(0), 2)
        self.sends(*[("come", 0, 1, 1), ("come", 0, 2, 1)] * 2)
        self.bring("come", 0, 2, 1)
        self.bring("here", 2, 0, 1)
        self.assertEqual(self.line.again(0), 1)
        self.assertEqual(self.air()[-1], ("come", 0, 1, 1))

    def test_a_promised_desk(self):
        self.line.call(0)
        self.bring("come", 0, 2, 1)
        self.assertEqual(self.line.again(2), 1)
        self.assertEqual(self.air()[-1], ("what", 2, 0, 1))

    def test_free_and_down(self):
        self.assertEqual(self.nothing_happens(self.line.again, 1), 0)
        self.line.call(0)
        self.bring("come", 0, 2, 1)
        self.line.fall(0)
        self.line.fall(2)
        for desk in range(3):
            self.assertEqual(self.nothing_happens(self.line.again, desk), 0)

    def test_nobody_is_bound_for_ever(self):
        self.line.call(0)
        for letter in self.air():
            self.lose(*letter)
        self.line.again(0)
        self.bring("come", 0, 1, 1)
        self.bring("come", 0, 2, 1)
        for letter in self.air():
            self.lose(*letter)
        self.assertEqual([self.line.again(desk) for desk in range(3)], [2, 1, 1])
        for number in self.numbers():
            self.line.bring(number)
        for letter in self.air():
            self.bring(*letter)
        self.has_done(0)


class InTheAir(LineCase):
    def test_numbers_go_on(self):
        self.line.call(0)
        self.assertEqual(self.numbers(), [0, 1])
        self.line.bring(0)
        self.assertEqual(self.numbers(), [1, 2])
        self.line.lose(1)
        self.line.lose(2)
        self.line.again(0)
        self.assertEqual(self.numbers(), [3, 4])
        self.assertEqual(self.line.double(3), 5)
        self.assertEqual(self.line.letters()[-1], (5, "come", 0, 1, 1))
        self.assertEqual(self.line.double(5), 6)

    def test_in_any_order(self):
        self.line.call(0)
        self.line.bring(1)
        self.line.bring(0)
        self.line.bring(3)
        self.line.bring(2)
        self.has_done(0)
        self.assertEqual(self.numbers(), [4, 5])

    def test_lost(self):
        self.line.call(0)
        self.assertIs(self.line.lose(0), None)
        self.sends(("come", 0, 2, 1))
        self.is_free(1)

    def test_doubles_are_alike(self):
        """They carry what was so when the first one was sent."""
        self.line.call(3)
        self.bring("come", 0, 1, 1)
        self.line.bring(self.numbers()[0])
        number = self.double("done", 0, 1, 1)
        self.line.call(4)
        self.line.lose(number - 1)
        self.line.bring(number)
        self.version(1, 0, (3,))

    def test_no_letter(self):
        self.line.call(0)
        self.line.bring(0)
        self.line.lose(1)
        functions = (self.line.bring, self.line.lose, self.line.double)
        for thing in odd_things() + [0, 1, 3, -1, True, False, 2.0, (2,), "2"]:
            if not isinstance(thing, float):
                for function in functions:
                    self.raises(NoLetter, self.nothing_happens, function, thing)
        self.assertEqual(self.numbers(), [2])
        line = Line(B)
        line.call(0)
        for thing in (True, False):
            for function in (line.bring, line.lose, line.double):
                self.raises(NoLetter, function, thing)
        self.assertEqual(len(line.letters()), 2)


class Editions(LineCase):
    def test_turn(self):
        self.assertEqual(self.line.turn(HALF, TO_HALF), 1)
        self.assertEqual(self.line.turn(THIRD, TO_THIRD), 2)
        self.assertEqual([self.line.state(desk)[1] for desk in range(3)], [0, 0, 0])
        self.sends()

    def test_turn_to_the_same_book(self):
        self.assertEqual([self.line.turn(B, tuple(range(12))) for _ in range(3)], [1, 2, 3])
        self.line.step_up(0)
        self.assertEqual(self.line.state(0)[1], 3)

    def test_step_up(self):
        self.do(3)
        self.line.turn(HALF, TO_HALF)
        self.assertIs(self.line.step_up(1), None)
        self.version(1, 1, (3,))
        self.version(0, 0, (3,))
        self.line.turn(THIRD, TO_THIRD)
        self.line.step_up(0)
        self.line.step_up(1)
        self.version(0, 2, (3,))
        self.version(1, 2, (3,))
        self.nothing_happens(self.line.step_up, 1)
        self.assertEqual(self.line.told(), told(THIRD, (3,)))

    def test_step_up_while_down(self):
        self.line.turn(HALF, TO_HALF)
        self.line.fall(1)
        self.raises(IsDown, self.nothing_happens, self.line.step_up, 1)
        self.line.rise(1)
        self.line.step_up(1)
        self.assertEqual(self.line.state(1)[1], 1)

    def test_a_work_takes_the_greatest_of_the_editions(self):
        self.do(3)
        self.line.turn(HALF, TO_HALF)
        self.line.turn(THIRD, TO_THIRD)
        self.line.step_up(2)
        self.do(0)
        for desk in range(3):
            self.version(desk, 2, (3, 0))
        self.assertEqual(self.line.told(), told(THIRD, (3, 0)))

    def test_a_work_of_elder_desks_stays_elder(self):
        self.line.turn(HALF, TO_HALF)
        self.line.step_up(2)
        self.do(3)
        self.version(0, 0, (3,))
        self.version(1, 0, (3,))
        self.do(4)
        self.version(0, 0, (3, 4))
        self.assertEqual(self.line.told(), told(HALF, (3, 4)))
        self.do(2)
        self.version(2, 1, (2,))
        self.do(1)
        self.version(1, 1, (3, 2, 1))

    def test_letters_carry_what_was_so_when_they_were_sent(self):
        self.line.turn(HALF, TO_HALF)
        self.line.call(3)
        self.bring("come", 0, 1, 1)
        self.line.step_up(1)
        self.bring("here", 1, 0, 1)
        # The letter came of the elder edition: the work is done in it.
        self.version(0, 0, (3,))
        self.bring("done", 0, 1, 1)
        self.version(1, 1, (3,))

    def test_the_letter_that_came_last_counts(self):
        for order in ((0, 1), (1, 0)):
            self.setUp()
            self.line.turn(HALF, TO_HALF)
            self.line.call(0)
            self.double("come", 0, 1, 1)
            self.bring("come", 0, 1, 1)
            self.line.step_up(1)
            self.bring("come", 0, 1, 1)
            here = [letter[0] for letter in self.line.letters() if letter[1] == "here"]
            for at in order:
                self.line.bring(here[at])
            self.bring("come", 0, 2, 1)
            self.bring("here", 2, 0, 1)
            self.version(0, order[1], (0,))

    def test_a_leader_that_steps_up_while_it_leads(self):
        self.line.turn(HALF, TO_HALF)
        self.line.call(3)
        self.bring("come", 0, 1, 1)
        self.line.step_up(0)
        self.is_bound(0, "leads", 1, 3)
        self.bring("here", 1, 0, 1)
        self.version(0, 1, (3,))
        self.bring("done", 0, 1, 1)
        self.version(1, 1, (3,))

    def test_a_promised_desk_that_steps_up_further_than_the_work(self):
        self.do(5)
        self.line.turn(HALF, TO_HALF)
        self.line.step_up(0)
        self.line.call(3)
        self.bring("come", 0, 1, 1)
        self.bring("here", 1, 0, 1)
        self.version(0, 1, (5, 3))
        self.line.turn(THIRD, TO_THIRD)
        self.line.step_up(1)
        self.version(1, 2, (5,))
        self.bring("done", 0, 1, 1)
        self.version(1, 2, (5, 3))
        self.version(0, 1, (5, 3))

    def test_done_told_late_has_the_edition_of_then(self):
        self.line.turn(HALF, TO_HALF)
        self.line.call(3)
        self.bring("come", 0, 1, 1)
        self.double("here", 1, 0, 1)
        self.bring("here", 1, 0, 1)
        self.lose("done", 0, 1, 1)
        self.line.step_up(0)
        self.line.call(4)
        self.bring("here", 1, 0, 1)
        self.bring("done", 0, 1, 1)
        self.version(1, 0, (3,))
        self.version(0, 1, (3, 4))

    def test_works_done_alone(self):
        self.line.turn(HALF, TO_HALF)
        self.do(4)
        self.version(0, 0, (4,))
        self.line.step_up(0)
        self.do(4)
        self.version(0, 1, (4, 4))

    def test_editions_are_kept_when_a_desk_falls(self):
        self.line.turn(HALF, TO_HALF)
        self.line.step_up(1)
        self.line.fall(1)
        self.assertEqual(self.line.state(1)[1], 1)
        self.line.turn(THIRD, TO_THIRD)
        self.line.rise(1)
        self.assertEqual(self.line.state(1)[1], 1)

    def test_goals_go_from_the_elder_newest_book(self):
        self.line.turn(HALF, TO_HALF)
        self.raises(NoGoals, self.nothing_happens, self.line.turn, HALF, TO_HALF)
        self.assertEqual(self.line.turn(HALF, tuple(range(6))), 2)

    def test_errors(self):
        for book in (C, book_by(SMALL[1], 2, 1), book_by(LARGE[0], 3, 1)):
            for thing in (TO_HALF, None, ()):
                self.raises(NoMatch, self.nothing_happens, self.line.turn, book, thing)
        for thing in odd_things() + [list(TO_HALF), TO_HALF[:11], TO_HALF + (0,), TO_HALF[1:] + (0,), (False,) + TO_HALF[1:]]:
            self.raises(NoGoals, self.nothing_happens, self.line.turn, HALF, thing)
        self.assertEqual(self.line.turn(HALF, TO_HALF), 1)


class ToldAndSettled(LineCase):
    def test_told_none_while_a_desk_is_bound(self):
        self.line.call(3)
        self.assertIs(self.line.told(), None)
        self.bring("come", 0, 1, 1)
        self.bring("here", 1, 0, 1)
        self.is_free(0)
        self.assertIs(self.line.told(), None)
        self.bring("done", 0, 1, 1)
        self.assertEqual(self.line.told(), told(B, (3,)))

    def test_told_while_desks_are_down(self):
        self.do(3)
        for desk in range(3):
            self.line.fall(desk)
        self.assertEqual(self.line.told(), told(B, (3,)))

    def test_told_in_the_newest_edition(self):
        self.do(4)
        self.line.turn(HALF, TO_HALF)
        self.assertEqual((self.line.told(), told(B, (4,))), (1, 7))
        self.line.turn(Book(T, (9,), ((0,) * 6,)), (0,) * 6)
        self.assertEqual(self.line.told(), 9)

    def test_settle_counts_letters_that_came(self):
        self.line.call(3)
        self.assertEqual(self.line.settle(), 3)
        self.line.call(0)
        self.assertEqual(self.line.settle(), 6)
        self.assertEqual(self.line.settle(), 0)
        self.has_done(3, 0)

    def test_settle_lets_desks_rise_ascending(self):
        self.line.call(0)
        self.bring("come", 0, 1, 1)
        self.bring("come", 0, 2, 1)
        for letter in self.air():
            self.lose(*letter)
        for desk in (2, 0, 1):
            self.line.fall(desk)
        # Desk 0 gives up and sends two letters, the others ask, and are each told once more.
        self.assertEqual(self.line.settle(), 6)
        self.has_done()
        self.is_free(0, 1, 2)
        self.assertEqual([self.line.state(desk)[0] for desk in range(3)], [True] * 3)

    def test_settle_sends_again(self):
        self.line.call(0)
        for letter in self.air():
            self.lose(*letter)
        self.assertEqual(self.line.settle(), 6)
        self.has_done(0)

    def test_settle_sends_again_for_all_that_are_bound(self):
        self.line.call(0)
        self.bring("come", 0, 2, 1)
        for letter in self.air():
            self.lose(*letter)
        # Two letters "come" and one "what", to which the leader says nothing; two "here", two "done".
        self.assertEqual(self.line.settle(), 7)
        self.has_done(0)

    def test_settle_takes_the_first_letter_first(self):
        self.line.call(0)
        self.line.call(1)
        # Desk 2 promises itself for the work 0, for which desk 1 is busy: so neither is done.
        other = self.line.copy()
        self.line.settle()
        self.has_done()
        other.bring(2)
        other.settle()
        self.assertEqual(other.done(), (1,))

    def test_settle_with_late_letters(self):
        self.line.call(3)
        self.double("come", 0, 1, 1)
        self.line.fall(0)
        self.line.rise(0)
        # Two letters "come", an answer to each, "off" for giving up, and once more behind each answer.
        self.assertEqual(self.line.settle(), 2 + 2 + 1 + 2)
        self.has_done()


class Copies(LineCase):
    def test_copies_go_on_apart(self):
        self.do(3)
        self.line.turn(HALF, TO_HALF)
        self.line.call(0)
        self.bring("come", 0, 1, 2)
        other = self.line.copy()
        self.assertIsInstance(other, Line)
        kept = all_of(self.line)
        self.assertEqual(all_of(other), kept)
        other.settle()
        other.call(4)
        other.step_up(1)
        other.turn(THIRD, TO_THIRD)
        other.fall(2)
        self.assertEqual(all_of(self.line), kept)
        self.assertEqual(self.line.turn(THIRD, TO_THIRD), 2)
        there = all_of(other)
        self.line.settle()
        self.line.call(2)
        self.line.fall(0)
        self.assertEqual(all_of(other), there)
        self.assertEqual(other.done(), (3, 0, 4))
        self.has_done(3, 0, 2)

    def test_copies_go_on_alike(self):
        self.line.call(0)
        self.bring("come", 0, 1, 1)
        self.bring("here", 1, 0, 1)
        self.double("come", 0, 2, 1)
        other = self.line.copy()
        for line in (self.line, other):
            self.assertEqual(line.double(line.letters()[0][0]), 4)
            self.assertEqual(line.again(0), 1)
            # Four letters "come", an answer to each; the last one wanted, and each one behind it, is told of the end.
            self.assertEqual(line.settle(), 4 + 4 + 2 + 3)
            line.call(4)
        self.assertEqual(all_of(other), all_of(self.line))
        self.has_done(0, 4)

    def test_what_a_leader_has_goes_with_the_copy(self):
        self.line.call(0)
        self.bring("come", 0, 1, 1)
        self.bring("here", 1, 0, 1)
        other = self.line.copy()
        self.line.fall(0)
        self.assertEqual(other.again(0), 1)
        self.assertEqual(other.letters()[-1][1:], ("come", 0, 2, 1))

    def test_how_turns_ended_goes_with_the_copy(self):
        self.line.call(3)
        self.bring("come", 0, 1, 1)
        self.bring("here", 1, 0, 1)
        self.lose("done", 0, 1, 1)
        other = self.line.copy()
        other.again(1)
        other.settle()
        self.assertEqual(other.journal(1), ((0, 1, 3),))
        self.assertEqual(self.line.journal(1), ())

    def test_books_of_all_offices(self):
        for book in even_books():
            line = Line(book)
            line.call(0)
            other = line.copy()
            line.settle()
            other.settle()
            self.assertEqual(all_of(other), all_of(line))
            self.assertEqual(line.done(), (0,))

    def test_lines_stand_apart(self):
        other = Line(B)
        self.do(0)
        self.assertEqual((other.done(), other.letters()), ((), []))


class Small(Case):
    def test_two_desks(self):
        line = Line(C)
        self.assertEqual([line.call(work) for work in (0, 1, 2)], ["done", "done", "called"])
        self.assertEqual(line.letters(), [(0, "come", 0, 1, 2)])
        line.bring(0)
        self.assertEqual(line.letters(), [(1, "here", 1, 0, 2)])
        line.bring(1)
        self.assertEqual(line.letters(), [(2, "done", 0, 1, 2)])
        line.bring(2)
        self.assertEqual((line.done(), line.told()), ((0, 1, 2), 1))
        self.assertEqual(line.note(1), note(C, (0, 1, 2), 1))
        self.assertEqual(line.journal(1), ((1, 1, 1), (0, 2, 2)))
        self.assertEqual(F, line.office)


if __name__ == "__main__":
    unittest.main()
