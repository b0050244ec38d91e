"""Points 3.1 and 3.2: labels that are used again, slips, and the fourth and the fifth fact."""

import unittest

from helper import (
    ALONE, ALONE_TWICE, F, IDLE, LARGE, O, RING, SIX, SIX_RING, SIX_STAR, SMALL, STAR, Case, labels_in_words,
    long_row, news_in_words, odd_things, pasts, rows_to, second_events_in_words, slip_in_words,
)
from latestword.errors import NoDesk, NoRow, NoSlip, NoSlips, NoWork
from latestword.news import newer
from latestword.slips import blank_slip, labels, newer_by, passed, slip, within_by

ALL = SMALL + LARGE
BLANK = ((None, None), ((None, None),) * 2, (((None, None),) * 2,) * 2)


def trials():
    small = [(office, row) for office in SMALL for row in rows_to(office, 3)]
    return small + [(office, long_row(office, length, length)) for office in SMALL for length in (6, 9, 20)]


def moments(office, row):
    """All beginnings of a row, with the slips of all desks behind each, as passed leads them."""
    slips = [blank_slip(office)] * office.desks
    found = [((), tuple(slips))]
    for event, work in enumerate(row):
        desks = office.works[work]
        behind = passed(office, work, tuple(slips[desk] for desk in desks))
        slips = [behind if desk in desks else slips[desk] for desk in range(office.desks)]
        found.append((row[:event + 1], tuple(slips)))
    return found


def is_bad_row(thing):
    return not (isinstance(thing, tuple) and all(type(part) is int and 0 <= part < 3 for part in thing))


class Labels(unittest.TestCase):
    def test_by_words(self):
        for office, row in trials():
            self.assertEqual(labels(office, row), labels_in_words(office, row))
        for office in LARGE:
            row = long_row(office, 10, 8)
            self.assertEqual(labels(office, row), labels_in_words(office, row))

    def test_used_again(self):
        self.assertEqual(labels(F, ()), ())
        self.assertEqual(labels(F, (0, 0, 0)), (0, 1, 0))
        self.assertEqual(labels(ALONE, (0,) * 8), (0, 1) * 4)
        self.assertEqual(labels(ALONE_TWICE, (0, 1, 0, 1, 1)), (0, 0, 0, 0, 1))
        self.assertEqual(labels(F, (0, 2, 0, 0, 0, 2)), (0, 0, 0, 1, 0, 1))

    def test_events_of_alike_rows_keep_their_labels(self):
        self.assertEqual(labels(F, (0, 1, 0)), (0, 0, 1))
        self.assertEqual(labels(F, (1, 0, 0)), (0, 0, 1))

    def test_fourth_fact(self):
        for office in ALL:
            for seed in range(3):
                row = long_row(office, 60, seed)
                given = labels(office, row)
                self.assertLessEqual(max(given), office.desks ** 4)
                self.assertEqual(len(given), 60)
                for length in range(1, 61, 1 if office.desks < 5 else 7):
                    events = second_events_in_words(office, row[:length])
                    names = {(row[event], given[event]) for event in events}
                    self.assertEqual(len(names), len(events))

    def test_beginnings_have_the_same_labels(self):
        row = long_row(RING, 30, 2)
        whole = labels(RING, row)
        for length in range(31):
            self.assertEqual(labels(RING, row[:length]), whole[:length])


class Slips(unittest.TestCase):
    def test_by_words(self):
        for office, row in trials():
            given = labels_in_words(office, row)
            for desk in range(office.desks):
                self.assertEqual(slip(office, row, desk), slip_in_words(office, row, given, desk))
        for office in LARGE:
            row = long_row(office, 9, 4)
            given = labels_in_words(office, row)
            self.assertEqual(slip(office, row, 3), slip_in_words(office, row, given, 3))

    def test_some(self):
        self.assertEqual(slip(F, (1,), 1)[0], (None, (1, 0)))
        self.assertEqual(slip(F, (1,), 0), BLANK)
        one = ((0, 0), None)
        self.assertEqual(slip(F, (0,), 0), (one, (one, (None, None)), ((one, (None, None)), ((None, None),) * 2)))

    def test_blank(self):
        self.assertEqual(blank_slip(F), BLANK)
        none = (None,)
        self.assertEqual(blank_slip(ALONE), (none, (none,), ((none,),)))
        for office in ALL:
            for desk in range(office.desks):
                self.assertEqual(slip(office, (), desk), blank_slip(office))
        self.assertEqual(slip(IDLE, (0, 1, 2), 0), blank_slip(IDLE))


class FromSlipsAlone(unittest.TestCase):
    def test_passed_along_small_rows(self):
        for office in SMALL:
            for row in rows_to(office, 4 if len(office.works) < 4 else 3):
                _, slips = moments(office, row)[-1]
                for desk in range(office.desks):
                    self.assertEqual(slips[desk], slip(office, row, desk))

    def test_passed_along_sixty_works(self):
        for office in ALL:
            for seed in range(4):
                row = long_row(office, 60, seed)
                for begun, slips in moments(office, row)[::20 if seed else 6]:
                    for desk in range(office.desks):
                        self.assertEqual(slips[desk], slip(office, begun, desk))

    def test_rounds_of_rings_and_stars(self):
        for office in (O, RING, SIX_RING, STAR, SIX_STAR):
            many = len(office.works)
            for row in ((tuple(range(many)) * 60)[:60], (tuple(reversed(range(many))) * 60)[:60]):
                begun, slips = moments(office, row)[-1]
                for desk in range(office.desks):
                    self.assertEqual(slips[desk], slip(office, begun, desk))

    def test_newer_by(self):
        for office in ALL:
            row = long_row(office, 60 if office.desks < 5 else 24, 5)
            for begun, slips in moments(office, row)[::3]:
                for one in range(office.desks):
                    for other in range(office.desks):
                        for desk in range(office.desks):
                            word = newer_by(office, slips[one], slips[other], desk)
                            self.assertEqual(word, newer(office, begun, one, other, desk))

    def test_within_by(self):
        for office in ALL:
            row = long_row(office, 60 if office.desks < 4 else 24, 7)
            for begun, slips in moments(office, row)[::4]:
                behind = pasts(office, begun)
                each = [news_in_words(office, begun, desk) for desk in range(office.desks)]
                for one, mine in enumerate(each):
                    for other, theirs in enumerate(each):
                        for desk in range(office.desks):
                            for goal in range(office.desks):
                                event, end = mine[desk], theirs[goal]
                                within = None not in (event, end) and event in behind[end]
                                found = within_by(office, slips[one], desk, slips[other], goal)
                                self.assertIs(found, within)

    def test_some(self):
        blank = blank_slip(F)
        zero, one = slip(F, (0, 2, 1, 0), 0), slip(F, (0, 2, 1, 0), 1)
        self.assertEqual(newer_by(F, zero, one, 0), "one")
        self.assertEqual(newer_by(F, one, zero, 0), "other")
        self.assertEqual(newer_by(F, zero, zero, 1), "same")
        self.assertEqual(newer_by(F, blank, blank, 0), "same")
        self.assertEqual(newer_by(F, slip(F, (0,), 0), blank, 0), "one")
        self.assertEqual(newer_by(F, blank, slip(F, (0,), 0), 0), "other")
        self.assertIs(within_by(F, zero, 1, one, 1), True)
        self.assertIs(within_by(F, one, 1, zero, 0), False)
        self.assertIs(within_by(F, blank, 0, zero, 0), False)
        self.assertIs(within_by(F, blank, 0, blank, 0), False)
        self.assertIs(within_by(F, slip(F, (0,), 0), 0, blank, 0), False)
        self.assertEqual(passed(F, 2, (blank, blank)), slip(F, (2,), 1))
        self.assertEqual(passed(F, 0, (blank,)), slip(F, (0,), 0))


class Errors(Case):
    def wrong_slips(self):
        first, second, third = BLANK
        wrong = [
            (), (first,), (first, second), (first, second, third, third), [first, second, third],
            (list(first), second, third), (first, list(second), third), (first, second, list(third)),
            ((None,), second, third), ((None,) * 3, second, third), (first, (first,), third),
            (first, second, (second,)), (first, second, (second, first)), (second, second, third),
            (first, first, third), (first, second, second), (first, second, third + (second,)),
            (first, (first, [None, None]), third), (first, second, (second, (first, [None, None]))),
        ]
        names = [
            (0,), (0, 0, 0), [0, 0], (3, 0), (-1, 0), (0, -1), (True, 0), (0, True), (None, 0), (0, None), 0, "00",
            b"00", (), ((0, 0),), {}, False, (0, "0"), ((0,), 0), F, (0, (0, 0)),
        ]
        for name in names + [thing for thing in odd_things() if thing is not None]:
            right = isinstance(name, tuple) and [type(part) for part in name] == [int, int]
            if not right or name not in ((0, 1), (1, 0), (0, 0)):
                wrong.append(((None, name), second, third))
                wrong.append((first, (first, (name, None)), third))
                wrong.append((first, second, (second, (first, (None, name)))))
        return wrong + odd_things()

    def test_labels_of_six_and_more_digits_are_names(self):
        name = (2, 10 ** 39)
        held = ((name, None), ((name, None), (None, None)), BLANK[2])
        self.assertEqual(newer_by(F, held, held, 0), "same")

    def test_no_row_and_no_desk(self):
        for thing in odd_things():
            if is_bad_row(thing):
                self.raises(NoRow, labels, F, thing)
                self.raises(NoRow, slip, F, thing, 0)
                self.raises(NoRow, slip, F, thing, None)
        for thing in odd_things() + [2, -1]:
            self.raises(NoDesk, slip, F, (0,), thing)

    def test_no_work_then_no_slips(self):
        for thing in odd_things() + [10, -1]:
            if thing != 3:
                self.raises(NoWork, passed, F, thing, (BLANK,))
                self.raises(NoWork, passed, F, thing, None)
        for work in (0, 2):
            right = (BLANK,) * len(F.works[work])
            passed(F, work, right)
            for thing in odd_things() + [(), right[1:], right + (BLANK,), list(right), BLANK, {0: BLANK}]:
                self.raises(NoSlips, passed, F, work, thing)
        for thing in self.wrong_slips():
            self.raises(NoSlips, passed, F, 0, (thing,))
            self.raises(NoSlips, passed, F, 2, (BLANK, thing))
            self.raises(NoSlips, passed, F, 2, (thing, BLANK))

    def test_no_slip_then_no_desk(self):
        for thing in self.wrong_slips():
            self.raises(NoSlip, newer_by, F, thing, BLANK, 0)
            self.raises(NoSlip, newer_by, F, BLANK, thing, 0)
            self.raises(NoSlip, newer_by, F, BLANK, thing, None)
            self.raises(NoSlip, within_by, F, thing, 9, thing, 9)
            self.raises(NoSlip, within_by, F, BLANK, 0, thing, 9)
        for thing in odd_things() + [2, -1]:
            self.raises(NoDesk, newer_by, F, BLANK, BLANK, thing)
            self.raises(NoDesk, within_by, F, BLANK, thing, BLANK, 0)
            self.raises(NoDesk, within_by, F, BLANK, thing, None, 0)
            self.raises(NoDesk, within_by, F, BLANK, 1, BLANK, thing)

    def test_slips_of_other_offices(self):
        self.raises(NoSlip, newer_by, F, blank_slip(O), BLANK, 0)
        self.raises(NoSlips, passed, SIX, 0, (BLANK,))
        held = slip(SIX, (9,), 0)
        self.raises(NoSlip, newer_by, SIX_RING, held, held, 0)

    def test_slips_of_no_row_raise_nothing(self):
        name = (0, 5)
        held = ((None, name), ((name, None), (None, (2, 1))), (((name, name), (None, name)),) * 2)
        for pair in ((held, BLANK), (BLANK, held), (held, slip(F, (2, 0, 1), 0))):
            passed(F, 2, pair)
            for desk in range(2):
                self.assertIn(newer_by(F, *pair, desk), ("one", "other", "same"))
                self.assertIn(within_by(F, pair[0], desk, pair[1], 0), (True, False))
        self.assertIs(within_by(F, held, 1, ((None, None),) + held[1:], 0), False)


if __name__ == "__main__":
    unittest.main()
