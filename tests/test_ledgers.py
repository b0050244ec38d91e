"""Point 16.1: ledgers of rows of any length."""

import unittest

from helper import APART, Case, Chance, F, LARGE, O, RING, SIX, SMALL, STAR, long_row, odd_things, pasts, works_of
from latestword.cuts import cut_row, is_cut, rolled_back
from latestword.errors import NoCounts, NoCut, NoDesk, NoNumber, NoPlace, NoWork
from latestword.ledgers import Ledger
from latestword.news import ahead
from latestword.rows import least_row


def kept(office, row):
    ledger = Ledger(office)
    for work in row:
        ledger.add(work)
    return ledger


def own_events(office, row, desk):
    return [event for event, work in enumerate(row) if desk in office.works[work]]


def whole(office, row):
    return tuple(len(own_events(office, row, desk)) for desk in range(office.desks))


def all_of(ledger):
    """All that a ledger tells of what it keeps."""
    events = range(ledger.length())
    counts = ledger.counts()
    return (
        [ledger.kept(event) for event in events], [ledger.marks(event) for event in events], counts,
        [[ledger.own(desk, number) for number in range(many)] for desk, many in enumerate(counts)],
    )


class LedgerCase(Case):
    def compare(self, ledger, row):
        """The ledger tells what whole rows tell."""
        office = ledger.office
        desks = range(office.desks)
        self.assertEqual(ledger.length(), len(row))
        self.assertEqual(ledger.counts(), whole(office, row))
        own = [own_events(office, row, desk) for desk in desks]
        found = pasts(office, row)
        for event, work in enumerate(row):
            self.assertEqual(ledger.kept(event), work)
            self.assertEqual(ledger.marks(event), tuple(len(found[event] & set(own[desk])) for desk in desks))
            for desk in desks:
                last = max(found[event] & set(own[desk]), default=None)
                self.assertEqual(ledger.latest(event, desk), last)
        for desk in desks:
            self.assertEqual([ledger.own(desk, number) for number in range(len(own[desk]))], own[desk])
            self.raises(NoNumber, ledger.own, desk, len(own[desk]))


class Kept(LedgerCase):
    def test_some(self):
        ledger = Ledger(F)
        self.assertEqual((ledger.length(), ledger.counts()), (0, (0, 0)))
        self.assertEqual([ledger.add(work) for work in (0, 1, 2, 0)], [0, 1, 2, 3])
        self.assertEqual((ledger.length(), ledger.counts()), (4, (3, 2)))
        self.assertEqual([ledger.kept(event) for event in range(4)], [0, 1, 2, 0])
        self.assertEqual([ledger.marks(event) for event in range(4)], [(1, 0), (0, 1), (2, 2), (3, 2)])
        self.assertEqual([ledger.own(0, number) for number in range(3)], [0, 2, 3])
        self.assertEqual([ledger.own(1, number) for number in range(2)], [1, 2])
        self.assertEqual((ledger.latest(0, 0), ledger.latest(0, 1), ledger.latest(3, 1)), (0, None, 2))
        self.assertIs(ledger.ahead(0, 2), True)
        self.assertIs(ledger.ahead(0, 1), False)
        self.assertIs(ledger.ahead(2, 2), False)
        self.assertIs(ledger.ahead(3, 0), False)

    def test_rows(self):
        for seed, office in enumerate(SMALL + LARGE):
            for length in (0, 1, 7, 60):
                row = long_row(office, length, seed)
                self.compare(kept(office, row), row)

    def test_behind_every_work(self):
        row = long_row(STAR, 15, 3)
        ledger = Ledger(STAR)
        for at, work in enumerate(row):
            self.compare(ledger, row[:at])
            self.assertEqual(ledger.add(work), at)

    def test_ahead(self):
        for seed, office in enumerate(SMALL + LARGE):
            row = long_row(office, 14, seed)
            ledger = kept(office, row)
            for one in range(14):
                for other in range(14):
                    self.assertIs(ledger.ahead(one, other), ahead(office, row, one, other))

    def test_the_tenth_fact(self):
        for seed, office in enumerate(SMALL + LARGE):
            row = long_row(office, 30, seed + 5)
            ledger = kept(office, row)
            for one, work in enumerate(row):
                for other in range(30):
                    first, second = ledger.marks(one), ledger.marks(other)
                    is_in = one in pasts(office, row)[other]
                    self.assertEqual(is_in, all(low <= high for low, high in zip(first, second)))
                    for desk in office.works[work]:
                        self.assertEqual(is_in, first[desk] <= second[desk])

    def test_hundreds_of_works(self):
        for office in (RING, SIX):
            row = long_row(office, 700, 4)
            self.compare(kept(office, row), row)


class RolledBack(LedgerCase):
    def test_as_the_function(self):
        for seed, office in enumerate(SMALL + LARGE):
            chance = Chance(seed)
            for length in (0, 5, 60):
                row = long_row(office, length, seed)
                ledger = kept(office, row)
                for _ in range(8):
                    counts = tuple(chance.below(most + 1) for most in whole(office, row))
                    self.assertEqual(ledger.rolled_back(counts), rolled_back(office, row, counts))
                self.compare(ledger, row)

    def test_hundreds_of_works(self):
        row = long_row(RING, 500, 8)
        ledger = kept(RING, row)
        counts = tuple(most // 2 + desk for desk, most in enumerate(whole(RING, row)))
        self.assertEqual(ledger.rolled_back(counts), rolled_back(RING, row, counts))
        self.assertEqual(ledger.rolled_back((0, 0, 0, 0)), (0, 0, 0, 0))
        self.assertEqual(ledger.rolled_back(ledger.counts()), ledger.counts())


class CutBack(LedgerCase):
    def test_some(self):
        ledger = kept(F, (0, 1, 2, 1, 0))
        self.assertEqual(ledger.cut_back((2, 3)), 1)
        self.compare(ledger, (0, 1, 2, 1))
        self.assertEqual(ledger.cut_back((0, 1)), 3)
        self.compare(ledger, (1,))

    def test_to_nothing_and_to_all(self):
        for seed, office in enumerate(SMALL + LARGE):
            row = long_row(office, 20, seed)
            ledger = kept(office, row)
            self.assertEqual(ledger.cut_back(ledger.counts()), 0)
            self.compare(ledger, row)
            self.assertEqual(ledger.cut_back((0,) * office.desks), 20)
            self.compare(ledger, ())
            self.assertEqual(ledger.cut_back((0,) * office.desks), 0)
            self.assertEqual(ledger.add(0), 0)
            self.compare(ledger, (0,))

    def test_the_order_and_the_numbers_of_what_stays(self):
        ledger = kept(APART, (0, 1, 2, 1, 0, 2, 1))
        self.assertEqual(ledger.cut_back((2, 1, 1)), 3)
        self.compare(ledger, (0, 1, 2, 0))
        self.assertEqual((ledger.own(0, 1), ledger.own(2, 0)), (3, 2))
        self.raises(NoPlace, ledger.kept, 4)

    def test_courses(self):
        for seed, office in enumerate(SMALL + LARGE):
            chance = Chance(seed)
            ledger = Ledger(office)
            row = ()
            for _ in range(12):
                for _ in range(chance.below(15)):
                    work = chance.below(len(works_of(office)))
                    self.assertEqual(ledger.add(work), len(row))
                    row += (work,)
                most = whole(office, row)
                counts = ledger.rolled_back(tuple(max(0, own - chance.below(4)) for own in most))
                works = [work for event, work in enumerate(row) if all(
                    own_events(office, row, desk).index(event) < counts[desk] for desk in office.works[work])]
                self.assertIs(is_cut(office, row, counts), True)
                self.assertEqual(least_row(office, tuple(works)), cut_row(office, row, counts))
                self.assertEqual(ledger.cut_back(counts), len(row) - len(works))
                row = tuple(works)
                self.compare(ledger, row)
                self.assertEqual(ledger.counts(), counts)

    def test_hundreds_of_works(self):
        row = long_row(F, 600, 2)
        ledger = kept(F, row)
        counts = ledger.rolled_back((200, 150))
        gone = ledger.cut_back(counts)
        self.assertEqual(ledger.length(), 600 - gone)
        self.assertEqual(ledger.counts(), counts)
        self.assertEqual(least_row(F, tuple(ledger.kept(event) for event in range(ledger.length()))),
                         cut_row(F, row, counts))


class Errors(LedgerCase):
    def setUp(self):
        self.ledger = kept(F, (0, 2, 1))
        self.all = all_of(self.ledger)

    def tearDown(self):
        self.assertEqual(all_of(self.ledger), self.all)
        self.compare(self.ledger, (0, 2, 1))

    def below(self, thing, many):
        return type(thing) is int and 0 <= thing < many

    def test_add(self):
        for thing in odd_things() + [3, -1]:
            if not self.below(thing, 3):
                self.raises(NoWork, self.ledger.add, thing)

    def test_events(self):
        for thing in odd_things() + [3, -1]:
            if not self.below(thing, 3):
                self.raises(NoPlace, self.ledger.kept, thing)
                self.raises(NoPlace, self.ledger.marks, thing)
                for other in (0, 3, None):
                    self.raises(NoPlace, self.ledger.ahead, thing, other)
                    self.raises(NoPlace, self.ledger.ahead, other, thing)
                    self.raises(NoPlace, self.ledger.latest, thing, other)

    def test_desks_and_numbers(self):
        for thing in odd_things() + [2, -1]:
            if not self.below(thing, 2):
                self.raises(NoDesk, self.ledger.latest, 0, thing)
                self.raises(NoDesk, self.ledger.own, thing, 0)
                self.raises(NoDesk, self.ledger.own, thing, None)
                self.raises(NoNumber, self.ledger.own, 0, thing)
                self.raises(NoNumber, self.ledger.own, 1, thing)
                self.raises(NoPlace, self.ledger.latest, 3, thing)

    def test_counts(self):
        wrong = [(3, 0), (0, 3), (-1, 0), (0,), (0, 0, 0), (), [1, 0], (True, 0), (1, False), (None, 0), "10", (1, "0")]
        right = [(0, 0), (0, 1), (1, 0)]
        for thing in wrong + [thing for thing in odd_things() if not (
                isinstance(thing, tuple) and any(thing == own for own in right)
                and not any(isinstance(part, bool) for part in thing))]:
            self.raises(NoCounts, self.ledger.rolled_back, thing)
            self.raises(NoCounts, self.ledger.cut_back, thing)

    def test_cuts(self):
        for counts in ((2, 0), (0, 1), (1, 1), (0, 2), (1, 2), (2, 0)):
            self.raises(NoCut, self.ledger.cut_back, counts)
            self.ledger.rolled_back(counts)

    def test_an_empty_ledger(self):
        ledger = Ledger(O)
        self.raises(NoPlace, ledger.kept, 0)
        self.raises(NoPlace, ledger.marks, 0)
        self.raises(NoPlace, ledger.ahead, 0, 0)
        self.raises(NoNumber, ledger.own, 2, 0)
        self.raises(NoDesk, ledger.own, 3, 0)
        self.raises(NoCounts, ledger.rolled_back, (0, 0, 1))
        self.assertEqual(ledger.rolled_back((0, 0, 0)), (0, 0, 0))

    def test_equal_to_nothing_else(self):
        self.assertFalse(self.ledger == F)
        self.assertFalse(F == self.ledger)
        self.assertFalse(self.ledger == [0, 2, 1])


if __name__ == "__main__":
    unittest.main()
