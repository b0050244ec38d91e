"""Point 15.1: cuts of rows, and what goes back or on to one."""

import unittest
from itertools import product

from helper import (
    ALONE, APART, Case, Chance, F, LARGE, O, RING, SIX, SIX_RING, SMALL, STAR, least_of, long_row, odd_things, pasts,
    rows_of, rows_to
)
from latestword.cuts import carried_on, cut_row, is_cut, many_cuts, rolled_back
from latestword.errors import NoCounts, NoCut, NoRow, TooMany
from latestword.rows import alike, least_row


def own_events(office, row, desk):
    return [event for event, work in enumerate(row) if desk in office.works[work]]


def whole(office, row):
    return tuple(len(own_events(office, row, desk)) for desk in range(office.desks))


def all_counts(office, row):
    return list(product(*[range(many + 1) for many in whole(office, row)]))


def counted(office, row, counts):
    """For each desk the events that it counts."""
    return [own_events(office, row, desk)[:counts[desk]] for desk in range(office.desks)]


def is_cut_in_words(office, row, counts):
    events = counted(office, row, counts)
    return all(
        len({event in events[desk] for desk in office.works[work]}) == 1 for event, work in enumerate(row)
    )


def events_of(office, row, counts):
    return sorted({event for events in counted(office, row, counts) for event in events})


def cut_of(office, row, events):
    """The counts of some events."""
    return tuple(len(set(own_events(office, row, desk)) & set(events)) for desk in range(office.desks))


def is_at_most(one, other):
    return all(low <= high for low, high in zip(one, other))


def short_rows():
    """Short rows of the small offices, and some that are longer."""
    for office in SMALL:
        for row in rows_to(office, 3):
            yield office, row
        for seed in range(4):
            yield office, long_row(office, 5 + seed, seed)


class Cuts(Case):
    def test_some(self):
        self.assertIs(is_cut(F, (0, 2, 1), (1, 0)), True)
        self.assertIs(is_cut(F, (0, 2, 1), (2, 0)), False)
        self.assertEqual([is_cut(F, (0, 2, 1), counts) for counts in product(range(3), repeat=2)],
                         [True, False, False, True, False, False, False, True, True])
        self.assertEqual(rolled_back(F, (0, 2, 1), (2, 0)), (1, 0))
        self.assertEqual(carried_on(F, (0, 2, 1), (2, 0)), (2, 1))
        self.assertEqual(rolled_back(F, (0, 2, 1), (0, 2)), (0, 0))
        self.assertEqual(carried_on(F, (0, 2, 1), (0, 2)), (2, 2))
        self.assertEqual(cut_row(F, (0, 2, 1), (2, 1)), (0, 2))
        self.assertEqual(many_cuts(F, (0, 2, 1)), 4)

    def test_all_counts(self):
        for office, row in short_rows():
            counts = all_counts(office, row)
            cuts = [own for own in counts if is_cut_in_words(office, row, own)]
            for own in counts:
                self.assertIs(is_cut(office, row, own), own in cuts)
                back = [cut for cut in cuts if is_at_most(cut, own)]
                on = [cut for cut in cuts if is_at_most(own, cut)]
                greatest = [cut for cut in back if all(is_at_most(other, cut) for other in back)]
                least = [cut for cut in on if all(is_at_most(cut, other) for other in on)]
                self.assertEqual([rolled_back(office, row, own)], greatest)
                self.assertEqual([carried_on(office, row, own)], least)
            self.assertEqual(many_cuts(office, row), len(cuts))

    def test_the_ninth_fact(self):
        for office, row in short_rows():
            cuts = [own for own in all_counts(office, row) if is_cut(office, row, own)]
            for one in cuts:
                for other in cuts:
                    self.assertIs(is_cut(office, row, tuple(map(min, one, other))), True)
                    self.assertIs(is_cut(office, row, tuple(map(max, one, other))), True)

    def test_cut_row(self):
        for office, row in short_rows():
            for own in all_counts(office, row):
                if is_cut_in_words(office, row, own):
                    works = tuple(row[event] for event in events_of(office, row, own))
                    self.assertEqual(cut_row(office, row, own), least_of(office, works))
                else:
                    self.raises(NoCut, cut_row, office, row, own)

    def test_the_row_of_a_cut_is_a_beginning(self):
        for office in SMALL:
            for row in rows_of(office, 4)[::3]:
                for own in all_counts(office, row):
                    if is_cut(office, row, own):
                        events = events_of(office, row, own)
                        rest = [event for event in range(len(row)) if event not in events]
                        behind = cut_row(office, row, own) + tuple(row[event] for event in rest)
                        self.assertIs(alike(office, behind, row), True)

    def test_all_and_nothing(self):
        for office in SMALL + LARGE:
            for row in ((), long_row(office, 1, 2), long_row(office, 60, 2)):
                all_of_it = whole(office, row)
                nothing = (0,) * office.desks
                for counts in (all_of_it, nothing):
                    self.assertIs(is_cut(office, row, counts), True)
                    self.assertEqual(rolled_back(office, row, counts), counts)
                    self.assertEqual(carried_on(office, row, counts), counts)
                self.assertEqual(cut_row(office, row, all_of_it), least_row(office, row))
                self.assertEqual(cut_row(office, row, nothing), ())


class LongRows(Case):
    def test_by_events(self):
        for seed, office in enumerate([F, O, RING, STAR, APART, SIX, SIX_RING]):
            chance = Chance(seed)
            row = long_row(office, 60, seed + 1)
            for _ in range(15):
                counts = tuple(chance.below(most + 1) for most in whole(office, row))
                events = counted(office, row, counts)
                # Back: the events that stand, with their pasts, in what each of their desks counts.
                back = [event for event in range(len(row)) if all(
                    ahead in events[desk] for ahead in pasts(office, row)[event] for desk in office.works[row[ahead]])]
                self.assertEqual(rolled_back(office, row, counts), cut_of(office, row, back))
                on = {ahead for held in events for event in held for ahead in pasts(office, row)[event]}
                self.assertEqual(carried_on(office, row, counts), cut_of(office, row, on))
                self.assertIs(is_cut(office, row, counts), len(back) == len(on))
                self.assertEqual(cut_row(office, row, cut_of(office, row, on)),
                                 least_row(office, tuple(row[event] for event in sorted(on))))

    def test_rows_that_were_returned(self):
        row = (0, 1) * 100
        self.assertEqual(rolled_back(F, row, (40, 70)), (40, 70))
        self.assertEqual(cut_row(F, row, (2, 1)), (0, 0, 1))


class ManyCuts(Case):
    def test_some(self):
        self.assertEqual(many_cuts(F, ()), 1)
        self.assertEqual(many_cuts(ALONE, (0,) * 20), 21)
        self.assertEqual(many_cuts(F, (0,) * 10 + (1,) * 10), 121)
        self.assertEqual(many_cuts(O, (0, 1, 2) * 6), 19)

    def test_twenty_works(self):
        for seed, office in enumerate(SMALL + LARGE):
            row = long_row(office, 20, seed)
            own = pasts(office, row)
            ideals = {frozenset()}
            for event in range(20):
                ideals |= {ideal | {event} for ideal in ideals if own[event] <= ideal | {event}}
            self.assertEqual(many_cuts(office, row), len(ideals))

    def test_too_many(self):
        for row in ((0,) * 21, (0, 1, 2) * 20):
            with self.assertRaises(TooMany) as caught:
                many_cuts(F, row)
            self.assertEqual((type(caught.exception), caught.exception.most), (TooMany, 20))
        self.raises(NoRow, many_cuts, F, (3,) * 21)


class Errors(Case):
    def test_no_row_is_ahead(self):
        for thing in odd_things() + [(3,), [0], (0, True)]:
            if not (isinstance(thing, tuple) and all(type(part) is int and 0 <= part < 3 for part in thing)):
                self.raises(NoRow, many_cuts, F, thing)
                for counts in ((0, 0), None, (1, 0), (99, 0)):
                    for function in (is_cut, rolled_back, carried_on, cut_row):
                        self.raises(NoRow, function, F, thing, counts)

    def test_what_is_no_counts(self):
        row = (0, 2, 1)
        wrong = [(3, 0), (0, 3), (2, 3), (-1, 0), (0,), (0, 0, 0), (), [0, 0], (True, 0), (0, False), (None, 0), (0, "0"),
                 ((0,), 0), (0, [0]), {0: 0, 1: 0}, "00", b"00", 0, None, (10 ** 39, 0), (0, -10 ** 39)]
        right = [(0, 0), (0, 1), (1, 0)]
        for thing in wrong + [thing for thing in odd_things() if not (
                isinstance(thing, tuple) and any(thing == own for own in right)
                and not any(isinstance(part, bool) for part in thing))]:
            self.assertIs(is_cut(F, row, thing), False)
            for function in (rolled_back, carried_on, cut_row):
                self.raises(NoCounts, function, F, row, thing)

    def test_counts_are_ahead_of_cuts(self):
        self.raises(NoCounts, cut_row, F, (0, 2, 1), (2, 3))
        self.raises(NoCut, cut_row, F, (0, 2, 1), (2, 0))
        self.raises(NoCut, cut_row, F, (2,), (0, 1))


if __name__ == "__main__":
    unittest.main()
