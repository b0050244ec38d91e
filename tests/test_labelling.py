"""Points 4.1 and 4.2: strangers' labels, and those who deal labels out."""

import unittest
from itertools import product

from helper import (
    ALONE, ALONE_TWICE, APART, F, IDLE, LARGE, O, RING, SIX, SMALL, STAR, Case, long_row, odd_things, rows_of,
    rows_to, second_events_in_words, slip_in_words, works_of, wrong_at,
)
from latestword.errors import BadDealer, NoLabels, NoMany, NoRow, OfficeError, TooMany
from latestword.labelling import are_right, clashing, dealt, fewest_labels, first_wrong, judged_dealer
from latestword.slips import labels, slip


def first_wrong_in_words(office, row, given):
    for moment in range(1, len(row) + 1):
        pair = wrong_at(office, row[:moment], given)
        if pair:
            return (moment,) + pair
    return None


def clashing_in_words(office, row):
    found = set()
    for moment in range(1, len(row) + 1):
        events = second_events_in_words(office, row[:moment])
        found |= {(one, other) for one in events for other in events if one < other and row[one] == row[other]}
    return sorted(found)


def fewest_in_words(office, row):
    clashes = clashing_in_words(office, row)
    many = 0
    while True:
        for given in product(range(many), repeat=len(row)):
            if all(given[one] != given[other] for one, other in clashes):
                return many
        many += 1


def dealt_in_words(office, row, dealer):
    found = []
    for event, work in enumerate(row):
        ahead = row[:event]
        slips = tuple(slip_in_words(office, ahead, found, desk) for desk in office.works[work])
        found.append(dealer(work, slips))
    return tuple(found)


def judged_in_words(office, dealer, many):
    """The verdict: None, ("wrong", row), ("bad", row) or ("raised", row)."""
    for length in range(1, many + 1):
        for row in rows_of(office, length):
            try:
                given = dealt_in_words(office, row, dealer)
            except Mine:
                return "raised", row
            if type(given[-1]) is not int or given[-1] < 0:
                return "bad", row
            if wrong_at(office, row, given):
                return "wrong", row
    return None


class Mine(Exception):
    """What a dealer raises of its own."""


def zero(work, slips):
    return 0


def by_work(work, slips):
    return work


def good(work, slips):
    """As the document's own labels."""
    names = {name for held in slips for rows in held[2] for part in rows for name in part}
    return min(label for label in range(len(names) + 1) if (work, label) not in names)


def by_second(work, slips):
    """The least label that is not among the second news alone."""
    names = {name for held in slips for part in held[1] for name in part}
    return min(label for label in range(len(names) + 1) if (work, label) not in names)


def by_news(work, slips):
    names = {name for held in slips for name in held[0]}
    return min(label for label in range(len(names) + 1) if (work, label) not in names)


def by_turns(many):
    """Labels that go round, one behind the last one of the same work that is known."""
    def dealer(work, slips):
        known = [name[1] for held in slips for name in held[0] if name is not None and name[0] == work]
        return (max(known, default=-1) + 1) % many
    return dealer


def failing(dealer, bad):
    """A dealer that returns something bad, or raises, when it has seen some works."""
    def other(work, slips):
        names = [name for held in slips for name in held[0] if name is not None]
        if work == 1 and len(names) > 1:
            if bad is Mine:
                raise Mine("own")
            return bad
        return dealer(work, slips)
    return other


class Labels(unittest.TestCase):
    def test_small_rows_and_all_labels(self):
        offices = ((F, 4, 2), (ALONE, 5, 3), (ALONE_TWICE, 4, 2), (APART, 3, 2), (O, 3, 2), (IDLE, 3, 2))
        for office, most, many in offices:
            for row in rows_to(office, most):
                for given in product(range(many), repeat=len(row)):
                    expected = first_wrong_in_words(office, row, given)
                    self.assertEqual(first_wrong(office, row, given), expected)
                    self.assertIs(are_right(office, row, given), expected is None)

    def test_longer_rows(self):
        for office in SMALL:
            for seed in range(3):
                row = long_row(office, 14, seed)
                some = (0,) * 14, tuple(range(14)), (0, 1) * 7, (0, 1, 2, 0, 1, 2, 3) * 2, long_row(SIX, 14, seed)
                for given in some:
                    self.assertEqual(first_wrong(office, row, given), first_wrong_in_words(office, row, given))

    def test_right_ones(self):
        for office in SMALL + LARGE:
            row = long_row(office, 60, 1)
            for given in (labels(office, row), tuple(range(60)), tuple(10 ** 39 - event for event in range(60))):
                self.assertIs(are_right(office, row, given), True)
                self.assertIs(first_wrong(office, row, given), None)
        self.assertIs(are_right(F, (), ()), True)
        self.assertIs(first_wrong(F, (), ()), None)

    def test_wrong_ones(self):
        row = (0, 2, 0, 2)
        self.assertEqual(first_wrong(F, row, (0, 0, 0, 0)), None)
        self.assertEqual(first_wrong(F, (2, 0, 2), (0, 0, 0)), None)
        self.assertEqual(first_wrong(O, (0, 1, 0), (0, 0, 0)), (3, 0, 2))
        self.assertIs(are_right(O, (0, 1, 0), (0, 0, 0)), False)
        self.assertEqual(first_wrong(O, (0, 1, 0), (0, 0, 1)), None)
        self.assertEqual(first_wrong(O, (0, 0, 0, 1, 0), (0, 0, 1, 0, 1)), (5, 2, 4))
        self.assertEqual(first_wrong(O, (0, 1, 0, 0, 0), (0, 0, 0, 0, 0)), (3, 0, 2))

    def test_labels_of_unlike_works_do_not_clash(self):
        self.assertIs(are_right(F, (0, 1, 2), (0, 0, 0)), True)
        self.assertIs(are_right(APART, (0, 1, 2), (5, 5, 5)), True)

    def test_clashing(self):
        self.assertEqual(clashing(F, (0, 2, 0, 0)), [])
        self.assertEqual(clashing(F, ()), [])
        for office in SMALL:
            for row in rows_to(office, 4 if len(office.works) < 4 else 3) + [long_row(office, 14, 6)]:
                self.assertEqual(clashing(office, row), clashing_in_words(office, row))
        first = clashing(O, (0, 1, 0))
        first.append(None)
        self.assertEqual(clashing(O, (0, 1, 0)), [(0, 2)])

    def test_clashing_is_what_are_right_looks_at(self):
        for row in rows_of(O, 4):
            clashes = clashing(O, row)
            for given in product(range(2), repeat=4):
                right = all(given[one] != given[other] for one, other in clashes)
                self.assertIs(are_right(O, row, given), right)

    def test_fewest(self):
        self.assertEqual(fewest_labels(F, ()), 0)
        self.assertEqual(fewest_labels(F, (0, 0, 0)), 1)
        self.assertEqual(fewest_labels(O, (0, 1, 0)), 2)
        for office in SMALL:
            for row in rows_to(office, 4 if len(office.works) < 4 else 3):
                self.assertEqual(fewest_labels(office, row), fewest_in_words(office, row))
            for seed in range(3):
                row = long_row(office, 9, seed)
                self.assertEqual(fewest_labels(office, row), fewest_in_words(office, row))

    def test_fewest_are_enough_and_fewer_are_not(self):
        row = (0, 1, 0, 2, 1, 0, 2)
        many = fewest_labels(O, row)
        self.assertTrue(any(are_right(O, row, given) for given in product(range(many), repeat=7)))
        self.assertFalse(any(are_right(O, row, given) for given in product(range(many - 1), repeat=7)))

    def test_twelve_and_thirteen_works(self):
        for office in SMALL + LARGE:
            row = long_row(office, 12, 3)
            many = fewest_labels(office, row)
            self.assertTrue(1 <= many <= max(labels(office, row)) + 1)
            for long in (row + (0,), (0,) * 60):
                with self.assertRaises(TooMany) as caught:
                    fewest_labels(office, long)
                self.assertEqual(caught.exception.most, 12)
        self.assertEqual(fewest_labels(F, (0,) * 12), 1)

    def test_rows_that_need_several(self):
        star = (0, 1, 2, 0, 1, 2, 0, 0, 1, 2, 1, 0)
        clashes = clashing_in_words(STAR, star)
        self.assertTrue(clashes)
        self.assertEqual(fewest_labels(STAR, star), fewest_by_sets(clashes, 12))
        for seed in range(12):
            row = long_row(RING, 12, seed)
            self.assertEqual(fewest_labels(RING, row), fewest_by_sets(clashing_in_words(RING, row), 12))


def fewest_by_sets(clashes, many):
    """The least number of lots of events without a clash that take all events, told set by set."""
    foes = [sum(1 << one + other - event for one, other in clashes if event in (one, other)) for event in range(many)]
    whole = 2 ** many
    free = [False] * whole
    free[0] = True
    for lot in range(1, whole):
        low = (lot & -lot).bit_length() - 1
        free[lot] = free[lot & lot - 1] and not foes[low] & lot
    best = [0] + [many + 1] * (whole - 1)
    for lot in range(1, whole):
        part = lot
        while part:
            if free[part]:
                best[lot] = min(best[lot], best[lot ^ part] + 1)
            part = part - 1 & lot
    return best[-1]


class Dealers(unittest.TestCase):
    def test_dealt(self):
        for office in SMALL:
            for row in rows_to(office, 3) + [long_row(office, 12, 2)]:
                self.assertEqual(dealt(office, row, good), labels(office, row))
                for dealer in (zero, by_work, by_second, by_news, by_turns(3)):
                    self.assertEqual(dealt(office, row, dealer), dealt_in_words(office, row, dealer))
        row = long_row(SIX, 60, 2)
        self.assertEqual(dealt(SIX, row, good), labels(SIX, row))

    def test_what_a_dealer_is_asked(self):
        asked = []

        def dealer(work, slips):
            asked.append((work, slips))
            return len(asked) + 6
        row = (0, 2, 1, 0)
        self.assertEqual(dealt(F, row, dealer), (7, 8, 9, 10))
        given = (7, 8, 9, 10)
        expected = [
            (work, tuple(slip_in_words(F, row[:event], given, desk) for desk in F.works[work]))
            for event, work in enumerate(row)
        ]
        self.assertEqual(asked, expected)
        self.assertEqual(dealt(F, (), dealer), ())
        self.assertEqual(len(asked), 4)

    def test_labels_of_its_own_stand_in_the_slips(self):
        seen = []

        def dealer(work, slips):
            seen.append(slips[0][0])
            return 40 + len(seen)
        dealt(ALONE, (0, 0), dealer)
        self.assertEqual(seen, [(None,), ((0, 41),)])
        self.assertEqual(slip(ALONE, (0,), 0)[0], ((0, 0),))

    def bad_things(self):
        return [thing for thing in odd_things() if type(thing) is not int or thing < 0] + [1.0, {0}, 0.5]

    def test_bad_dealers(self):
        for bad in self.bad_things():
            for row, begun in (((1, 1), (1,)), ((0, 2, 0, 1), (0, 2, 0, 1)), ((0, 1, 2, 1, 0, 1), (0, 1, 2, 1))):
                dealer = failing(zero, bad) if len(row) > 2 else lambda work, slips: bad
                with self.assertRaises(BadDealer) as caught:
                    dealt(F, row, dealer)
                self.assertEqual(caught.exception.row, begun)
                self.assertIs(type(caught.exception), BadDealer)

    def test_bad_and_wrong_are_not_mixed(self):
        self.assertEqual(dealt(O, (0, 1, 0), zero), (0, 0, 0))

    def test_errors_of_dealers_go_on(self):
        with self.assertRaises(Mine):
            dealt(F, (2, 1), failing(zero, Mine))
        with self.assertRaises(Mine):
            judged_dealer(F, failing(zero, Mine), 6)

        def strict(work, slips):
            raise OfficeError("mine")
        with self.assertRaises(OfficeError) as caught:
            dealt(F, (0,), strict)
        self.assertIs(type(caught.exception), OfficeError)
        self.assertEqual(dealt(F, (), strict), ())
        self.assertIs(judged_dealer(F, strict, 0), None)
        with self.assertRaises(OfficeError):
            judged_dealer(F, strict, 1)


class Judged(unittest.TestCase):
    def judge(self, office, dealer, many):
        try:
            found = judged_dealer(office, dealer, many)
        except BadDealer as error:
            return "bad", error.row
        except Mine:
            return "raised"
        return None if found is None else ("wrong", found)

    def same(self, office, dealer, many):
        expected = judged_in_words(office, dealer, many)
        if expected and expected[0] == "raised":
            expected = "raised"
        self.assertEqual(self.judge(office, dealer, many), expected)
        return expected

    def test_right_dealers(self):
        for office, most in ((F, 6), (ALONE, 6), (ALONE_TWICE, 6), (O, 6), (APART, 6), (IDLE, 6), (RING, 4), (STAR, 4)):
            self.assertIs(judged_dealer(office, good, most), None)

    def test_against_all_rows(self):
        dealers = [zero, by_work, by_second, by_news, by_turns(2), by_turns(3)]
        dealers += [failing(dealer, bad) for dealer in (zero, good, by_news) for bad in (None, True, -1, "0", Mine)]
        told = {}
        for office, many in ((F, 4), (O, 5), (ALONE_TWICE, 5), (APART, 4), (RING, 3), (STAR, 3), (IDLE, 4)):
            for dealer in dealers:
                expected = self.same(office, dealer, many)
                told[expected if expected is None else expected[0]] = True
        self.assertEqual(len(told), 4)

    def test_least_of_the_shortest(self):
        self.assertEqual(judged_dealer(O, zero, 6), (0, 1, 0))
        self.assertEqual(judged_dealer(O, zero, 3), (0, 1, 0))
        self.assertIs(judged_dealer(O, zero, 2), None)
        self.assertIs(judged_dealer(O, zero, 0), None)

    def test_each_single_bad_answer(self):
        """Which comes first, the wrong row or the one with no label, at each place."""
        for office in (F, O):
            calls = []

            def note(work, slips):
                if (work, slips) not in calls:
                    calls.append((work, slips))
                return 0
            judged_dealer(office, note, 3)
            for call in calls[::3]:
                for bad in (None, Mine):
                    def dealer(work, slips, call=call, bad=bad):
                        if (work, slips) != call:
                            return 0
                        if bad is Mine:
                            raise Mine()
                        return bad
                    self.same(office, dealer, 3)

    def test_wrong_labels_at_one_place(self):
        works = works_of(STAR)
        for work in works:
            def dealer(own, slips, work=work):
                return 0 if own == work else good(own, slips)
            self.same(STAR, dealer, 3)

    def test_bad_ahead_of_wrong_and_behind_it(self):
        def knows(slips, name):
            return any(name in held[0] for held in slips)

        def other_one(work, slips):
            return 1 if work == 0 and knows(slips, (0, 0)) else 0

        def bad_first(work, slips):
            return None if work == 1 and knows(slips, (0, 1)) else other_one(work, slips)

        def bad_last(work, slips):
            return None if work == 2 and knows(slips, (0, 0)) and knows(slips, (1, 0)) else 0

        def bad_sooner(work, slips):
            return None if work == 1 and knows(slips, (2, 0)) else 0
        self.assertEqual(self.same(O, other_one, 4), ("wrong", (1, 0, 1)))
        self.assertEqual(self.same(O, bad_first, 4), ("bad", (0, 0, 1)))
        self.assertEqual(self.same(O, bad_last, 4), ("wrong", (0, 1, 0)))
        self.assertEqual(self.same(O, bad_sooner, 4), ("bad", (2, 1)))
        self.assertEqual(self.judge(ALONE_TWICE, lambda work, slips: None if work else 0, 6), ("bad", (1,)))

    def test_asked_for_no_longer_row(self):
        longest = []

        def dealer(work, slips):
            names = {name for held in slips for name in held[0] if name is not None}
            longest.append(max((name[1] for name in names), default=-1) + 1)
            return longest[-1]
        for many in range(7):
            longest.clear()
            judged_dealer(ALONE, dealer, many)
            self.assertEqual(max(longest, default=-1), many - 1)

    def test_asked_for_none_behind_a_wrong_row(self):
        asked = []

        def dealer(work, slips):
            asked.append(work)
            return 0
        self.assertEqual(judged_dealer(O, dealer, 3), (0, 1, 0))
        self.assertLessEqual(len(asked), 3 + 9 + 27)
        again = len(asked)
        self.assertEqual(judged_dealer(O, dealer, 6), (0, 1, 0))
        self.assertEqual(len(asked), 2 * again)

    def test_no_many(self):
        for thing in odd_things() + [-1, 7, 8, 10 ** 39, 6.0]:
            if thing is not True and type(thing) is int and 0 <= thing <= 6:
                continue
            with self.assertRaises(NoMany) as caught:
                judged_dealer(F, zero, thing)
            self.assertIs(type(caught.exception), NoMany)

    def test_bad_dealers_of_every_kind(self):
        for bad in odd_things():
            if type(bad) is not int or bad < 0:
                with self.assertRaises(BadDealer) as caught:
                    judged_dealer(F, lambda work, slips: bad, 6)
                self.assertEqual(caught.exception.row, (0,))


class Errors(Case):
    def test_no_row_comes_first(self):
        for thing in odd_things() + [(3,), [0] * 13, (0,) * 13 + (3,)]:
            if not (isinstance(thing, tuple) and all(type(part) is int and 0 <= part < 3 for part in thing)):
                self.raises(NoRow, are_right, F, thing, None)
                self.raises(NoRow, are_right, F, thing, ())
                self.raises(NoRow, first_wrong, F, thing, (0,))
                self.raises(NoRow, clashing, F, thing)
                self.raises(NoRow, fewest_labels, F, thing)
                self.raises(NoRow, dealt, F, thing, lambda work, slips: None)

    def test_no_labels(self):
        for thing in odd_things() + [(), (0,), (0, 1, 2), [0, 1], (0, -1), (0, True), (False, 0), (0, None), ("0", 0)]:
            plain = isinstance(thing, tuple) and all(type(part) is int and part >= 0 for part in thing)
            if not plain or len(thing) != 2:
                self.raises(NoLabels, are_right, F, (0, 1), thing)
                self.raises(NoLabels, first_wrong, F, (0, 1), thing)
        self.raises(NoLabels, are_right, F, (), (0,))
        self.raises(NoLabels, are_right, F, (), None)

    def test_labels_of_every_size(self):
        self.assertIs(are_right(F, (0, 1), (10 ** 39, 0)), True)


if __name__ == "__main__":
    unittest.main()
