"""Point 19.1: journals audited, and the rows that they come of."""

import copy
import unittest

from helper import (
    ALONE, APART, C, Case, Chance, F, IDLE, O, RING, SIX, SIX_RING, STAR, adding_book, even_books, long_row, odd_things,
    works_of
)
from latestword.audits import audited, row_of
from latestword.errors import Faulty, NoJournals
from latestword.lines import Line
from latestword.logs import done_most
from latestword.offices import Office
from latestword.rows import least_row

PAIR = Office(2, ((0, 1), (1,)))
FOUR = Office(4, ((0, 1), (1, 2), (2, 3), (0,), (1,), (0, 2), (3,)))


def alone(office, leader):
    """Whether a desk leads no works but its own alone."""
    return all(len(desks) == 1 for desks in office.works if min(desks) == leader)


def audited_in_words(office, journals):
    for desk, journal in enumerate(journals):
        for place, (leader, turn, work) in enumerate(journal):
            own = 0 <= work < len(office.works) and desk in office.works[work]
            if not own or leader != min(office.works[work]):
                return "work", desk, place
            last = [held[1] for held in journal[:place] if held[0] == leader][-1:] or [0]
            if turn <= last[0] or alone(office, leader) and turn != last[0] + 1:
                return "work", desk, place
    for leader, turn in sorted({entry[:2] for journal in journals for entry in journal}):
        first = [entry for journal in journals for entry in journal if entry[:2] == (leader, turn)][0]
        for desk in office.works[first[2]]:
            if first not in journals[desk]:
                return "lacking", leader, turn, desk
    logs = tuple(tuple(entry[2] for entry in journal) for journal in journals)
    if done_most(office, logs) != tuple(map(len, logs)):
        return "stuck", done_most(office, logs)
    return None


def journals_of(office, row, turns=None):
    """The journals of a row, its leaders' turns one behind the other, or as told."""
    lasts = [0] * office.desks
    found = [()] * office.desks
    for at, work in enumerate(row):
        leader = office.works[work][0]
        lasts[leader] += 1 if turns is None else turns[at]
        for desk in office.works[work]:
            found[desk] += ((leader, lasts[leader], work),)
    return tuple(found)


def gaps_for(office, row, seed):
    """How far the turn of each work goes on: one further, or more for leaders that can give up."""
    chance = Chance(seed)
    return [1 if alone(office, office.works[work][0]) else 1 + chance.below(3) for work in row]


def lines_course(book, seed, length):
    """A line that was led to and fro, with nobody bound in the end."""
    chance = Chance(seed)
    line = Line(book)
    desks = book.office.desks
    for _ in range(length):
        what = chance.below(12)
        air = [letter[0] for letter in line.letters()]
        if what < 4:
            line.call(chance.below(len(book.office.works)))
        elif what < 10 and air:
            line.bring(chance.among(air))
        elif what == 10 and air:
            line.lose(chance.among(air))
        elif what == 11:
            desk = chance.below(desks)
            (line.fall if line.state(desk)[0] else line.rise)(desk)
    line.settle()
    return line


class AuditCase(Case):
    def fault(self, office, journals, fault):
        self.assertEqual(audited(office, journals), fault)
        self.assertEqual(audited_in_words(office, journals), fault)
        self.raises(Faulty, row_of, office, journals)

    def right(self, office, journals, row):
        self.assertIs(audited(office, journals), None)
        self.assertIs(audited_in_words(office, journals), None)
        self.assertEqual(row_of(office, journals), least_row(office, row))


class Right(AuditCase):
    def test_some(self):
        self.right(F, ((), ()), ())
        self.right(F, (((0, 1, 2),), ((0, 1, 2),)), (2,))
        self.right(F, (((0, 1, 0), (0, 5, 2)), ((1, 1, 1), (0, 5, 2))), (0, 1, 2))
        self.right(F, (((0, 2, 2),), ((1, 1, 1), (0, 2, 2), (1, 2, 1))), (1, 2, 1))

    def test_rows(self):
        for seed, office in enumerate([F, O, ALONE, RING, STAR, IDLE, APART, SIX, SIX_RING, PAIR, FOUR]):
            for length in (0, 1, 8, 60):
                row = long_row(office, length, seed)
                self.right(office, journals_of(office, row), row)
                self.right(office, journals_of(office, row, gaps_for(office, row, seed)), row)

    def test_lines(self):
        for seed, book in enumerate(even_books()):
            line = lines_course(book, seed, 120)
            office = book.office
            self.right(office, tuple(line.journal(desk) for desk in range(office.desks)), line.done())

    def test_turns_of_leaders_that_gave_up(self):
        line = Line(adding_book(F, 3, (1, 1, 2)))
        line.call(2)
        line.fall(0)
        line.rise(0)
        line.settle()
        self.assertEqual(line.call(0), "done")
        self.assertEqual(line.journal(0), ((0, 2, 0),))
        self.right(F, (line.journal(0), line.journal(1)), (0,))

    def test_long_turns(self):
        self.right(F, (((0, 10 ** 39, 0),), ()), (0,))


class AllJournals(AuditCase):
    """All journals of few entries, against all that lines can lead to."""

    def reached(self, office, most):
        """All journals of lines with nobody bound, with turns up to a number and two entries at each desk."""
        start = ((),) * office.desks, (0,) * office.desks
        found = {start}
        edge = [start]
        while edge:
            journals, lasts = edge.pop()
            for work, desks in enumerate(office.works):
                leader = desks[0]
                first = lasts[leader] + 1
                for turn in range(first, first + 1 if alone(office, leader) else most + 1):
                    there = tuple(
                        journal + ((leader, turn, work),) if desk in desks else journal
                        for desk, journal in enumerate(journals))
                    turns = tuple(turn if desk == leader else last for desk, last in enumerate(lasts))
                    if turn <= most and max(map(len, there)) < 3 and (there, turns) not in found:
                        found.add((there, turns))
                        edge.append((there, turns))
        return {journals for journals, _ in found}

    def go_through(self, office, most):
        entries = [
            [(office.works[work][0], turn, work) for work in works_of(office) if desk in office.works[work]
             for turn in range(1, most + 1)]
            for desk in range(office.desks)
        ]
        journals = [[()] + [(one,) for one in own] + [(one, other) for one in own for other in own] for own in entries]
        right = self.reached(office, most)
        seen = set()
        for first in journals[0]:
            for second in journals[1]:
                both = (first, second)
                found = audited(office, both)
                self.assertEqual(found is None, both in right)
                self.assertEqual(found, audited_in_words(office, both))
                seen.add(found and found[0])
        return seen

    def test_two_desks(self):
        self.assertEqual(self.go_through(F, 3), {None, "work", "lacking", "stuck"})
        self.assertEqual(self.go_through(PAIR, 3), {None, "work", "lacking"})
        self.go_through(Office(2, ((0, 1), (0, 1), (0,))), 2)


class Faults(AuditCase):
    def test_works_that_are_none_of_the_desk(self):
        self.fault(F, (((1, 1, 1),), ((1, 1, 1),)), ("work", 0, 0))
        for work in (3, -1, 10 ** 39):
            self.fault(F, (((0, 1, 0), (0, 2, work)), ()), ("work", 0, 1))
        self.fault(F, ((), ((0, 1, 0),)), ("work", 1, 0))

    def test_leaders(self):
        self.fault(F, (((1, 1, 2),), ((1, 1, 2),)), ("work", 0, 0))
        self.fault(F, (((0, 1, 2),), ((1, 1, 2),)), ("work", 1, 0))
        for leader in (-1, 2, 10 ** 39, 1):
            self.fault(F, (((leader, 1, 0),), ()), ("work", 0, 0))

    def test_turns(self):
        for turn in (0, -1, -10 ** 39):
            self.fault(F, (((0, turn, 0),), ()), ("work", 0, 0))
        self.fault(F, (((0, 1, 0), (0, 1, 0)), ()), ("work", 0, 1))
        self.fault(F, (((0, 3, 0), (0, 2, 0)), ()), ("work", 0, 1))
        self.fault(F, (((0, 2, 2),), ((1, 1, 1), (0, 2, 2), (1, 1, 1))), ("work", 1, 2))

    def test_turns_of_unlike_leaders_do_not_meet(self):
        self.right(F, (((0, 7, 2),), ((0, 7, 2), (1, 1, 1))), (2, 1))
        row = (0, 1, 2, 0, 1)
        self.right(O, journals_of(O, row), row)

    def test_the_last_entry_ahead_with_the_same_leader(self):
        one = ((0, 1, 0), (0, 2, 5))
        self.fault(FOUR, (one, ((0, 1, 0), (1, 1, 4), (0, 1, 0)), ((0, 2, 5),), ()), ("work", 1, 2))

    def test_leaders_that_lead_their_own_alone(self):
        self.right(F, ((), ((1, 1, 1), (1, 2, 1))), (1, 1))
        self.fault(F, ((), ((1, 2, 1),)), ("work", 1, 0))
        self.fault(F, ((), ((1, 1, 1), (1, 3, 1))), ("work", 1, 1))
        self.fault(PAIR, (((0, 4, 0),), ((0, 4, 0), (1, 2, 1))), ("work", 1, 1))
        self.fault(FOUR, ((), (), (), ((3, 2, 6),)), ("work", 3, 0))
        # The desk 1 of that office leads a work with desk 2, too: it can give up.
        self.right(FOUR, ((), ((1, 2, 4),), (), ()), (4,))
        for turn in (0, 2, 3, -1, 10 ** 39):
            self.fault(ALONE, (((0, turn, 0),),), ("work", 0, 0))

    def test_least_desk_and_place(self):
        bad = ((0, 1, 0), (0, 0, 0), (0, 0, 0))
        self.fault(F, (bad, ((1, 0, 1),)), ("work", 0, 1))
        self.fault(F, ((), ((1, 1, 1), (1, 1, 1), (0, 0, 0))), ("work", 1, 1))

    def test_lacking(self):
        self.fault(F, (((0, 1, 2),), ()), ("lacking", 0, 1, 1))
        self.fault(F, ((), ((0, 1, 2),)), ("lacking", 0, 1, 0))
        self.fault(F, (((0, 1, 2),), ((0, 2, 2),)), ("lacking", 0, 1, 1))
        self.fault(F, (((0, 1, 2), (0, 2, 2)), ((0, 2, 2),)), ("lacking", 0, 1, 1))
        self.fault(F, (((0, 1, 2), (0, 2, 2)), ((0, 1, 2),)), ("lacking", 0, 2, 1))

    def test_lacking_of_the_least_leader_and_turn(self):
        three = Office(3, ((0, 1, 2), (1, 2), (0, 2)))
        self.fault(three, ((), ((1, 1, 1),), ((0, 5, 0),)), ("lacking", 0, 5, 0))
        self.fault(three, (((0, 5, 0),), ((1, 1, 1), (0, 5, 0)), ((0, 5, 0),)), ("lacking", 1, 1, 2))
        self.fault(three, (((0, 5, 0),), ((1, 1, 1),), ()), ("lacking", 0, 5, 1))
        # The least desk with such an entry tells which work it is.
        self.fault(three, (((0, 1, 2),), ((0, 1, 0),), ((0, 1, 2),)), ("stuck", (1, 0, 1)))
        self.fault(three, ((), ((0, 1, 0),), ((0, 1, 2),)), ("lacking", 0, 1, 0))

    def test_of_other_works_for_one_turn(self):
        three = Office(3, ((0, 1), (0, 2)))
        self.fault(three, (((0, 1, 0),), ((0, 1, 0),), ((0, 1, 1),)), ("stuck", (1, 1, 0)))

    def test_stuck(self):
        row = (0, 1, 2)
        journals = journals_of(O, row)
        turned = tuple(journal[::-1] for journal in journals)
        self.fault(O, turned, ("work", 0, 1))
        mixed = (((0, 1, 0), (0, 2, 2)), ((1, 1, 1), (0, 1, 0)), ((0, 2, 2), (1, 1, 1)))
        self.fault(O, mixed, ("stuck", (0, 0, 0)))
        two = Office(3, ((0, 1), (1, 2), (0, 2), (0,)))
        mixed = (((0, 1, 3), (0, 2, 0), (0, 3, 2)), ((1, 1, 1), (0, 2, 0)), ((0, 3, 2), (1, 1, 1)))
        self.fault(two, mixed, ("stuck", (1, 0, 0)))

    def test_which_fault_comes_first(self):
        three = Office(3, ((0, 1, 2), (1, 2), (0, 2)))
        self.fault(three, (((0, 1, 0),), (), ((1, 0, 1),)), ("work", 2, 0))
        self.fault(three, (((0, 1, 0),), (), ((1, 1, 1),)), ("lacking", 0, 1, 1))

    def test_one_entry_changed(self):
        """Entries left out, put in, twice, exchanged, of another leader, turn or work."""
        kinds = set()
        for seed, office in enumerate([F, O, RING, STAR, FOUR, SIX, PAIR, IDLE]):
            chance = Chance(seed)
            row = long_row(office, 12, seed)
            journals = journals_of(office, row, gaps_for(office, row, seed))
            for _ in range(150):
                desk = chance.below(office.desks)
                own = list(journals[desk])
                at = chance.below(len(own) + 1)
                what = chance.below(6)
                new = (chance.below(office.desks), 1 + chance.below(12), chance.below(len(office.works)))
                if what == 0:
                    own[at:at + 1] = []
                elif what == 1:
                    own[at:at] = [new]
                elif what == 2:
                    own[at:at] = own[at:at + 1]
                elif what == 3:
                    own[at:at + 2] = own[at:at + 2][::-1]
                elif at < len(own):
                    part = chance.below(3)
                    own[at] = tuple(new[k] if k == part else own[at][k] for k in range(3))
                changed = journals[:desk] + (tuple(own),) + journals[desk + 1:]
                fault = audited_in_words(office, changed)
                if fault is None:
                    self.assertIs(audited(office, changed), None)
                else:
                    self.fault(office, changed, fault)
                kinds.add(fault and fault[0])
        self.assertEqual(kinds, {None, "work", "lacking", "stuck"})

    def test_the_same_entry_changed_at_all_desks(self):
        for seed in range(60):
            chance = Chance(seed)
            row = long_row(FOUR, 10, seed)
            journals = [list(journal) for journal in journals_of(FOUR, row, gaps_for(FOUR, row, seed))]
            work = chance.below(len(FOUR.works))
            new = (FOUR.works[work][0], 1 + chance.below(15), work)
            for desk in FOUR.works[work]:
                journals[desk].insert(chance.below(len(journals[desk]) + 1), new)
            changed = tuple(map(tuple, journals))
            fault = audited_in_words(FOUR, changed)
            self.assertEqual(audited(FOUR, changed), fault)


class NoSuch(AuditCase):
    def test_things_of_any_kind(self):
        for thing in odd_things():
            if thing != ((), ()):
                self.raises(NoJournals, audited, F, thing)
                self.raises(NoJournals, row_of, F, thing)
            self.raises(NoJournals, audited, F, (thing,))
            if thing != ():
                self.raises(NoJournals, audited, F, ((), thing))
                self.raises(NoJournals, row_of, F, (thing, ()))
            self.raises(NoJournals, audited, F, ((thing,), ()))
            self.raises(NoJournals, audited, F, ((), ((0, 1, 2), thing)))
            if type(thing) is not int:
                for entry in ((thing, 1, 2), (0, thing, 2), (0, 1, thing)):
                    self.raises(NoJournals, audited, F, ((entry,), ()))
                    self.raises(NoJournals, row_of, F, ((), (entry,)))

    def test_one_thing_wrong(self):
        entry = (0, 1, 2)
        for journals in (([entry], [entry]), [(entry,), (entry,)], ((entry,),), ((entry,), (entry,), ()), ((entry[:2],), ()),
                         ((entry + (0,),), ()), ((list(entry),), ()), (entry, entry), (((0, True, 2),), ()),
                         (((False, 1, 2),), ()), (((0, 1, None),), ()), (((0, 1, "2"),), ()), {0: (), 1: ()}, ((), None)):
            self.raises(NoJournals, audited, F, journals)
            self.raises(NoJournals, row_of, F, journals)

    def test_many_entries(self):
        many = tuple((0, turn, 0) for turn in range(1, 2500))
        self.assertIs(audited(F, (many, ())), None)
        self.assertEqual(row_of(F, (many, ())), (0,) * 2499)
        self.assertEqual(audited(F, (((0, 1, 0),) * 2500, ())), ("work", 0, 1))

    def test_arguments_stay_as_they_were(self):
        for journals in (journals_of(F, (0, 2, 1, 2)), (((0, 1, 2),), ())):
            kept = copy.deepcopy(journals)
            audited(F, journals)
            self.assertEqual(journals, kept)

    def test_the_book_does_not_count(self):
        self.assertIs(audited(C.office, journals_of(F, (2, 0))), None)


if __name__ == "__main__":
    unittest.main()
