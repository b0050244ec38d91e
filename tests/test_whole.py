"""Part 0 over the whole program: all errors, objects that are led, and what was returned and is passed on."""

import copy
import unittest

from helper import ALONE, C, Case, F, O, RING, SIX, W, adding_book, long_row, machine_by
from latestword import errors
from latestword.audits import audited, row_of
from latestword.bars import bar_rows, is_bar, must_have
from latestword.begins import common, gone_on, joint
from latestword.books import Book, is_even, stood, told
from latestword.counting import many_rows, many_told, row_at, row_number
from latestword.covers import fewest_desks, office_for
from latestword.cuts import carried_on, cut_row, many_cuts, rolled_back
from latestword.floors import Floor
from latestword.fromlogs import least_with, may_from_logs
from latestword.hands import judged
from latestword.hatch import Hatch
from latestword.hearing import fewest_for_all, fewest_to_hear
from latestword.knowing import fewest_sure, may_tell, may_tell_by, sure, who_sure
from latestword.labelling import are_right, clashing, dealt, fewest_labels, judged_dealer
from latestword.leasts import is_shareable, least_book, may_be_apart, parting_row, same, torn
from latestword.ledgers import Ledger
from latestword.lines import Line
from latestword.logs import done_most, from_logs, log
from latestword.machines import Machine, is_for, joined, notes_behind, told_there, used, wrong_row
from latestword.news import ahead, latest, newer, past, view, view_row
from latestword.notes import blank_note, change_by, note, stood_by, told_by, worked
from latestword.offices import Office, meet, own_works, works_within
from latestword.reading import read_book, read_office, read_row
from latestword.rows import alike, all_alike, exchanges, layers, least_row, many_alike
from latestword.slips import blank_slip, labels, newer_by, passed, slip, within_by
from latestword.texts import book_text, office_text, row_text
from latestword.turning import are_goals, least_goals, turned

M = machine_by(F, (2, 3), 2)


def down():
    line = Line(C)
    line.fall(0)
    return line


def hand(work, notes):
    return [None] * len(notes)


DUE = [
    ("BadOffice", ("desks",), Office, (0, ((0,),))),
    ("BadOffice", ("works",), Office, (1, ())),
    ("BadOffice", ("works",), read_office, ("desks 1\n",)),
    ("BadBook", ("telling",), Book, (F, (), ())),
    ("BadBook", ("steps",), Book, (F, (0,), ())),
    ("BadBook", ("telling",), read_book, ("desks 1\nwork 0\n",)),
    ("BadMachine", ("many",), Machine, (F, (), (), {})),
    ("BadMachine", ("moves",), Machine, (F, (1, 1), (), {})),
    ("BadMachine", ("tells",), Machine, (F, M.many, M.moves, {})),
    ("BadText", (0,), read_office, (None,)),
    ("BadText", (1,), read_book, ("",)),
    ("BadText", (0,), read_row, (F, "")),
    ("BadText", (1,), Hatch().tell, ("book a x",)),
    ("BadDealer", ((0,),), dealt, (F, (0, 1), lambda work, slips: None)),
    ("BadDealer", ((0,),), judged_dealer, (F, lambda work, slips: -1, 1)),
    ("BadWorker", ((0,),), judged, (C, hand, lambda notes: 0, 1)),
    ("TooMany", (8,), all_alike, (F, (0,) * 9)),
    ("TooMany", (20,), many_alike, (F, (0,) * 21)),
    ("TooMany", (12,), fewest_labels, (F, (0,) * 13)),
    ("TooMany", (4,), fewest_to_hear, (SIX, (), 0)),
    ("TooMany", (4,), fewest_for_all, (SIX, ())),
    ("TooMany", (20,), many_cuts, (F, (0,) * 21)),
    ("NoName", ("a",), Hatch().tell, ("torn a",)),
    ("NoWork", (), meet, (F, 0, 3)),
    ("NoWork", (), Floor(C).work, (3,)),
    ("NoWork", (), Ledger(F).add, (3,)),
    ("NoWork", (), Line(C).call, (3,)),
    ("NoDesk", (), own_works, (F, 2)),
    ("NoDesk", (), Floor(C).note, (2,)),
    ("NoDesk", (), Ledger(F).own, (2, 0)),
    ("NoDesk", (), Line(C).fall, (2,)),
    ("NoLot", (), works_within, (F, (1, 0))),
    ("NoLot", (), Floor(C).may, ((2,),)),
    ("NoRow", (), least_row, (F, (3,))),
    ("NoRow", (), row_number, (F, (3,))),
    ("NoRow", (), read_row, (F, "3")),
    ("NoRow", (), rolled_back, (F, (3,), ())),
    ("NoLogs", (), from_logs, (F, ())),
    ("NoLogs", (), least_with, (F, (0,), ((1,),))),
    ("NoPlace", (), past, (F, (), 0)),
    ("NoPlace", (), Ledger(F).kept, (0,)),
    ("NoSlip", (), newer_by, (F, None, None, 0)),
    ("NoSlips", (), passed, (F, 0, ())),
    ("NoLabels", (), are_right, (F, (0,), ())),
    ("NoMany", (), judged, (C, hand, hand, 7)),
    ("NoMany", (), office_for, (0, ())),
    ("NoMatch", (), same, (C, adding_book(O, 2, (1, 1, 1)))),
    ("NoMatch", (), Line(C).turn, (adding_book(O, 2, (1, 1, 1)), (0, 1))),
    ("NoPairs", (), fewest_desks, (2, ((1, 0),))),
    ("NotEven", (), note, (W, (), 0)),
    ("NotEven", (), many_told, (W, 0)),
    ("NotEven", (), Floor, (W,)),
    ("NotEven", (), turned, (W, W, (0, 1, 2), ())),
    ("NotEven", (), Line, (W,)),
    ("NoNotes", (), told_by, (C, ())),
    ("NotShareable", (), must_have, (W, 0)),
    ("NoLength", (), many_rows, (F, 61)),
    ("NoNumber", (), row_at, (F, 2, 8)),
    ("NoNumber", (), Ledger(F).own, (0, 0)),
    ("NothingDone", (), Floor(C).back, ()),
    ("NothingDone", (), Hatch().tell, ("undo",)),
    ("NoLine", (), Hatch().tell, ("",)),
    ("NoCounts", (), carried_on, (F, (), ())),
    ("NoCounts", (), Ledger(F).rolled_back, ((1, 0),)),
    ("NoCut", (), cut_row, (F, (2,), (1, 0))),
    ("NoGoals", (), turned, (C, C, (1, 0), ())),
    ("NoGoals", (), Line(C).turn, (C, (1, 0))),
    ("NoNote", (), turned, (C, C, (0, 1), ())),
    ("NotComing", (), least_goals, (Book(ALONE, (0, 1), ((0,), (1,))),)),
    ("NoLetter", (), Line(C).bring, (0,)),
    ("IsDown", (), down().fall, (0,)),
    ("IsDown", (), down().step_up, (0,)),
    ("IsUp", (), Line(C).rise, (0,)),
    ("NoJournals", (), audited, (F, ())),
    ("Faulty", (), row_of, (F, (((0, 0, 0),), ()))),
]


class Errors(Case):
    def test_each_is_raised_where_it_is_due(self):
        for name, fields, function, arguments in DUE:
            with self.subTest(name, function=function):
                with self.assertRaises(errors.OfficeError) as caught:
                    function(*arguments)
                self.assertIs(type(caught.exception), getattr(errors, name))
                self.assertEqual(tuple(vars(caught.exception).values()), fields)

    def test_none_is_left_out(self):
        named = {name for name, thing in vars(errors).items() if isinstance(thing, type)}
        self.assertEqual({name for name, _, _, _ in DUE}, named - {"OfficeError"})

    def test_errors_are_new_each_time(self):
        found = []
        for _ in range(2):
            with self.assertRaises(errors.BadOffice) as caught:
                Office(0, ())
            found.append(caught.exception)
        self.assertIsNot(found[0], found[1])


def floor_told(book, row):
    floor = Floor(book)
    for work in row:
        floor.work(work)
    floor.back()
    desks = range(book.office.desks)
    return (floor.done(), floor.told(), [floor.note(desk) for desk in desks], floor.may((0,)), floor.newer(0, 0, 0),
            floor.trying(lambda held: (held.back(), held.done())))


def ledger_told(book, row):
    ledger = Ledger(book.office)
    found = [ledger.add(work) for work in row]
    counts = ledger.rolled_back(tuple(many // 2 for many in ledger.counts()))
    return (found, [ledger.marks(event) for event in found], counts, ledger.cut_back(counts), ledger.length(),
            ledger.counts())


def line_told(book, row):
    line = Line(book)
    found = []
    for work in row:
        found += [line.call(work), line.letters()]
        for letter in line.letters()[:2]:
            line.bring(letter[0])
    line.turn(book, tuple(range(len(book.steps))))
    line.step_up(0)
    desks = range(book.office.desks)
    return (found, line.settle(), line.done(), line.told(), [line.note(desk) for desk in desks],
            [line.state(desk) for desk in desks], [line.journal(desk) for desk in desks])


def hatch_told(book, row):
    hatch = Hatch()
    word = row_text(row)
    lines = ["book a " + book_text(book).replace("\n", "|"), "told a " + word, "least a " + word, "labels a " + word,
             "newer a " + word + " 0 0 0", "torn a", "may a " + word + " 0", "must a 0", "drop a", "names", "undo", "names"]
    return [hatch.tell(line) for line in lines], hatch.undoable()


class Led(Case):
    """Objects that are led: equal calls, in equal order, tell alike, and change nothing but their own object."""

    def test_equal_calls_tell_alike(self):
        for function in (floor_told, ledger_told, line_told, hatch_told):
            for book in (C, adding_book(RING, 8, (1, 3, 2, 5)), adding_book(O, 5, (1, 2, 3))):
                row = long_row(book.office, 14, 3)
                first = function(book, row)
                self.assertEqual(function(copy.deepcopy(book), tuple(list(row))), first)

    def test_books_and_offices_stay_as_they_were(self):
        for function in (floor_told, ledger_told, line_told, hatch_told):
            book = adding_book(RING, 8, (1, 3, 2, 5))
            kept = copy.deepcopy(book)
            function(book, long_row(RING, 14, 3))
            self.assertEqual((book, vars(book.office)), (kept, vars(kept.office)))

    def test_lists_are_new(self):
        line = Line(C)
        line.call(2)
        line.letters().append(None)
        self.assertEqual(line.letters(), [(0, "come", 0, 1, 1)])

    def test_objects_of_unlike_classes_are_unlike(self):
        things = [F, C, M, Floor(C), Ledger(F), Line(C), Hatch(), (), [], {}, None, 0, "", b"", True]
        for at, one in enumerate(things):
            for other in things[:at]:
                if not isinstance(one, bool) or other != 1:
                    self.assertIs(one == other, False)
                    self.assertIs(one != other, True)
                    self.assertIs(other == one, False)


class PassedOn(Case):
    """What was returned may be passed on, whatever its size."""

    def test_books(self):
        large = joined(machine_by(SIX, (2,) * 6, 2))
        self.assertGreater(len(large.steps), 12)
        least = least_book(large)
        row = long_row(SIX, 30, 2)
        self.assertIs(same(large, least), True)
        self.assertIs(parting_row(large, least), None)
        self.assertIs(is_even(large) and is_shareable(large) and torn(large) is None, True)
        self.assertTrue(may_be_apart(large))
        self.assertEqual(told(large, row), told(least, row))
        goals = least_goals(large)
        self.assertIs(are_goals(large, least, goals), True)
        self.assertEqual(turned(large, least, goals, note(large, row, 1)), note(least, row, 1))
        self.assertEqual(sum(many_told(large, 4)), many_rows(SIX, 4))
        self.assertEqual(Floor(large).told(), large.telling[0])
        line = Line(large)
        line.call(9)
        line.settle()
        self.assertEqual(line.turn(least, goals), 1)
        self.assertEqual(line.told(), told(least, (9,)))
        self.assertIs(is_for(large, machine_by(SIX, (2,) * 6, 2)), True)
        self.assertIs(wrong_row(least, machine_by(SIX, (2,) * 6, 2)), None)
        self.assertIs(is_bar(large, 0, bar_rows(large, 0)), True)
        self.assertEqual(told(large, row), sure(large, row, tuple(range(6))))

    def test_rows_that_are_long(self):
        ledger = Ledger(F)
        floor = Floor(C)
        for work in long_row(F, 200, 5):
            ledger.add(work)
            floor.work(work)
        row = floor.done()
        self.assertEqual(len(row), ledger.length())
        self.assertIs(alike(F, row, least_row(F, row)), True)
        self.assertEqual(exchanges(F, row, least_row(F, row)) is None, False)
        self.assertEqual(from_logs(F, tuple(log(F, row, desk) for desk in (0, 1))), least_row(F, row))
        self.assertEqual(sum(map(len, layers(F, row))), 200)
        self.assertEqual(len(labels(F, row)), 200)
        self.assertEqual(view_row(F, row, (0, 1)), least_row(F, row))
        self.assertEqual(rolled_back(F, row, ledger.counts()), ledger.counts())
        self.assertEqual(read_row(F, row_text(row)), row)
        self.assertGreater(row_number(F, row), 0)
        self.assertEqual((stood(C, row), told(C, row)), (stood_by(C, (floor.note(0), floor.note(1))), floor.told()))
        self.assertEqual(common(F, row, row), joint(F, row, row))
        self.assertEqual(gone_on(F, row, row), ())
        self.assertEqual(newer(F, row, 0, 1, 0), floor.newer(0, 1, 0))
        self.assertEqual(may_tell(C, row, (1,)), floor.may((1,)))
        self.assertEqual(may_tell_by(C, (1,), (floor.note(1),)), floor.may((1,)))
        self.assertEqual(len(view(F, row, (0, 1))), 200)
        self.assertIs(ahead(F, row, 0, 199), ledger.ahead(0, 199))
        self.assertEqual(latest(F, row, (0, 1), 0), ledger.own(0, ledger.counts()[0] - 1))
        self.assertTrue(isinstance(clashing(F, row), list))
        self.assertEqual(fewest_to_hear(F, row, 0) is None, False)

    def test_notes_and_slips(self):
        line = Line(C)
        for work in (0, 2, 1, 0, 2):
            line.call(work)
            line.settle()
        row = line.done()
        notes = (line.note(0), line.note(1))
        self.assertEqual(told_by(C, notes), told(C, row))
        self.assertEqual(change_by(C, (0,), notes[:1]), change_by(C, (0,), (note(C, row, 0),)))
        self.assertEqual(worked(C, 2, notes), note(C, row + (2,), 0))
        self.assertEqual(passed(F, 2, (notes[0][0], notes[1][0])), slip(F, row + (2,), 1))
        self.assertEqual(newer_by(F, notes[0][0], notes[1][0], 0), newer(F, row, 0, 1, 0))
        self.assertIs(within_by(F, notes[0][0], 0, notes[1][0], 0), True)
        self.assertEqual((blank_slip(F), blank_note(C)[0]), (blank_slip(F),) * 2)

    def test_machines_and_texts(self):
        again = Machine(M.office, M.many, M.moves, M.tells)
        self.assertEqual(again, M)
        self.assertEqual(told_there(again, (0, 2)), told(joined(M), (0, 2)))
        self.assertEqual(notes_behind(again, ()), (0, 0))
        self.assertEqual(len(used(M)), 2)
        self.assertEqual(read_office(office_text(office_for(3, ((0, 1),)))), office_for(3, ((0, 1),)))

    def test_logs_and_sure_desks(self):
        row = (0, 2, 1, 0)
        logs = (log(F, row, 0),)
        self.assertEqual(done_most(F, logs + ((),)), (1, 0))
        self.assertEqual(may_from_logs(C, (0,), logs), (told(C, row),))
        self.assertEqual((who_sure(C, row), fewest_sure(C, row)), ((0,), (0,)))


if __name__ == "__main__":
    unittest.main()
