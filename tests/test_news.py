"""Points 2.1 and 2.2: events, pasts, views, news, and the third fact."""

import unittest

from helper import (
    ALONE, F, IDLE, LARGE, O, RING, SIX, SMALL, Case, all_news_in_words, last_in, least_of, leaves, long_row,
    lots_of, news_in_words, odd_things, pasts, rows_of, rows_to, viewed,
)
from latestword.errors import NoDesk, NoLot, NoPlace, NoRow
from latestword.news import (
    ahead, heard_by, latest, newer, news, past, second_news, third_news, tops, view, view_row,
)
from latestword.rows import least_row

ROW = (0, 2, 1, 0)


def trials():
    """Pairs of an office and a row of it."""
    small = [(office, row) for office in SMALL for row in rows_to(office, 3)]
    return small + [(office, long_row(office, length, length)) for office in SMALL + LARGE for length in (6, 12, 20)]


def is_bad_row(thing):
    return not (isinstance(thing, tuple) and all(type(part) is int and 0 <= part < 3 for part in thing))


class Events(unittest.TestCase):
    def test_pasts_and_ahead(self):
        for office, row in trials():
            for event, own in enumerate(pasts(office, row)):
                self.assertEqual(past(office, row, event), tuple(sorted(own)))
                for place in range(len(row)):
                    self.assertIs(ahead(office, row, place, event), place in own and place != event)

    def test_first_and_last(self):
        self.assertEqual(past(F, ROW, 0), (0,))
        self.assertEqual(past(F, ROW, 3), (0, 1, 3))
        self.assertIs(ahead(F, ROW, 0, 3), True)
        self.assertIs(ahead(F, ROW, 3, 0), False)
        self.assertIs(ahead(F, ROW, 0, 0), False)
        self.assertIs(ahead(F, ROW, 2, 3), False)
        self.assertIs(ahead(F, (0, 1), 0, 1), False)
        self.assertIs(ahead(RING, (0, 1, 2), 0, 2), True)

    def test_views(self):
        for office, row in trials():
            for lot in lots_of(office.desks)[::1 if office.desks < 5 else 9]:
                events = sorted(viewed(office, row, lot))
                self.assertEqual(view(office, row, lot), tuple(events))
                least = least_row(office, tuple(row[event] for event in events))
                self.assertEqual(view_row(office, row, lot), least)

    def test_view_rows_are_least_of_all(self):
        for row in rows_of(F, 4):
            for lot in lots_of(2):
                works = tuple(row[event] for event in view(F, row, lot))
                self.assertEqual(view_row(F, row, lot), least_of(F, works))
        self.assertEqual(view_row(F, (1, 0, 2), (0,)), (0, 1, 2))

    def test_empty_and_whole_lot(self):
        for office, row in trials():
            self.assertEqual(view(office, row, ()), ())
            self.assertEqual(view_row(office, row, ()), ())
            self.assertEqual(view(office, row, tuple(range(office.desks))), tuple(range(len(row))))

    def test_heard_by(self):
        for office, row in trials():
            for place in range(len(row)):
                desks = tuple(desk for desk in range(office.desks) if place in viewed(office, row, (desk,)))
                self.assertEqual(heard_by(office, row, place), desks)

    def test_desks_without_events(self):
        self.assertEqual(view(IDLE, (0, 1), (0,)), ())
        self.assertEqual(news(IDLE, (0, 1), 0), (None, None, None))
        self.assertEqual(second_news(IDLE, (0, 1), 0), ((None,) * 3,) * 3)
        self.assertEqual(third_news(IDLE, (0, 1), 2), (((None,) * 3,) * 3,) * 3)
        self.assertEqual(heard_by(IDLE, (0, 1), 1), (1,))
        self.assertEqual(news(ALONE, (0, 0), 0), (1,))


class News(unittest.TestCase):
    def test_latest(self):
        for office, row in trials():
            for lot in lots_of(office.desks)[::1 if office.desks < 5 else 13]:
                for desk in range(office.desks):
                    expected = last_in(office, row, viewed(office, row, lot), desk)
                    self.assertEqual(latest(office, row, lot, desk), expected)
        self.assertIs(latest(F, ROW, (), 0), None)
        self.assertEqual(latest(F, ROW, (1,), 0), 1)
        self.assertEqual(latest(F, ROW, (0, 1), 0), 3)
        self.assertEqual(latest(F, (0,), (0,), 0), 0)

    def test_all_news_by_words(self):
        for office, row in trials():
            for desk in range(office.desks):
                first, second, third = all_news_in_words(office, row, desk)
                self.assertEqual(news(office, row, desk), first)
                self.assertEqual(second_news(office, row, desk), second)
                if office.desks < 5:
                    self.assertEqual(third_news(office, row, desk), third)

    def test_third_news_of_six_desks(self):
        for office in LARGE:
            row = long_row(office, 14, 3)
            for desk in (0, 5):
                self.assertEqual(third_news(office, row, desk), all_news_in_words(office, row, desk)[2])

    def test_examples(self):
        self.assertEqual(news(F, ROW, 1), (1, 2))
        self.assertEqual(news(F, ROW, 0), (3, 1))
        self.assertEqual(second_news(F, ROW, 0), ((3, 1), (1, 1)))
        self.assertEqual(third_news(F, ROW, 0), (((3, 1), (1, 1)), ((1, 1), (1, 1))))
        self.assertEqual(news(F, (0,), 1), (None, None))
        self.assertEqual(news(F, (), 0), (None, None))

    def test_newer(self):
        for office, row in trials():
            each = [news_in_words(office, row, desk) for desk in range(office.desks)]
            each = [[-1 if event is None else event for event in own] for own in each]
            for one in range(office.desks):
                for other in range(office.desks):
                    for desk in range(office.desks):
                        mine, theirs = each[one][desk], each[other][desk]
                        word = "same" if mine == theirs else "one" if mine > theirs else "other"
                        self.assertEqual(newer(office, row, one, other, desk), word)

    def test_newer_of_a_few(self):
        self.assertEqual(newer(F, ROW, 0, 1, 0), "one")
        self.assertEqual(newer(F, ROW, 1, 0, 0), "other")
        self.assertEqual(newer(F, ROW, 0, 1, 1), "other")
        self.assertEqual(newer(F, ROW, 0, 0, 1), "same")
        self.assertEqual(newer(F, (), 0, 1, 1), "same")
        self.assertEqual(newer(F, (0,), 0, 1, 0), "one")
        self.assertEqual(newer(F, (0,), 0, 1, 1), "same")


class Tops(unittest.TestCase):
    def test_by_words_and_third_fact(self):
        for office, row in trials():
            behind = pasts(office, row)
            for one in range(office.desks):
                for other in range(office.desks):
                    both = viewed(office, row, (one,)) & viewed(office, row, (other,))
                    found = tuple(sorted(
                        event for event in both
                        if not any(event in behind[later] for later in both if later != event)
                    ))
                    self.assertEqual(tops(office, row, one, other), found)
                    self.assertTrue(set(found) <= leaves(news(office, row, one)))
                    self.assertTrue(set(found) <= leaves(news(office, row, other)))

    def test_some(self):
        self.assertEqual(tops(F, ROW, 0, 1), (1,))
        self.assertEqual(tops(F, ROW, 0, 0), (3,))
        self.assertEqual(tops(F, (0, 1), 0, 1), ())
        self.assertEqual(tops(F, (), 1, 1), ())
        self.assertEqual(tops(SIX, (6, 8, 6, 8), 0, 5), ())
        self.assertEqual(tops(RING, (0, 2, 1, 3), 0, 2), (0, 1))

    def test_sixty_works(self):
        for office in SMALL + LARGE:
            row = long_row(office, 60, 6)
            behind = pasts(office, row)
            self.assertEqual(past(office, row, 59), tuple(sorted(behind[59])))
            last = office.desks - 1
            self.assertEqual(view(office, row, (last,)), tuple(sorted(viewed(office, row, (last,)))))
            self.assertEqual(news(office, row, last), news_in_words(office, row, last))
            self.assertTrue(set(tops(office, row, 0, last)) <= set(news(office, row, 0)))


class Errors(Case):
    def test_no_row_comes_first(self):
        for thing in odd_things() + [(3,), (0, True), [0]]:
            if is_bad_row(thing):
                self.raises(NoRow, ahead, F, thing, None, None)
                self.raises(NoRow, past, F, thing, 0)
                self.raises(NoRow, heard_by, F, thing, 99)
                self.raises(NoRow, view, F, thing, (0,))
                self.raises(NoRow, view_row, F, thing, (9,))
                self.raises(NoRow, latest, F, thing, (9,), 9)
                self.raises(NoRow, newer, F, thing, 9, 0, 0)
                self.raises(NoRow, tops, F, thing, 0, 9)
                for function in (news, second_news, third_news):
                    self.raises(NoRow, function, F, thing, None)

    def test_no_place(self):
        for thing in odd_things() + [4, -1, 10]:
            if thing != 3:
                self.raises(NoPlace, past, F, ROW, thing)
                self.raises(NoPlace, heard_by, F, ROW, thing)
                self.raises(NoPlace, ahead, F, ROW, thing, 0)
                self.raises(NoPlace, ahead, F, ROW, 0, thing)
        self.raises(NoPlace, past, F, (), 0)
        self.raises(NoPlace, ahead, F, (), 0, 0)

    def test_no_lot(self):
        right = [(), (0,), (1,), (0, 1)]
        for thing in odd_things() + [(2,), [], (0, True)]:
            plain = isinstance(thing, tuple) and all(type(part) is int for part in thing)
            if not plain or thing not in right:
                self.raises(NoLot, view, F, ROW, thing)
                self.raises(NoLot, view_row, F, ROW, thing)
                self.raises(NoLot, latest, F, ROW, thing, 0)
                self.raises(NoLot, latest, F, ROW, thing, None)

    def test_no_desk(self):
        for thing in odd_things() + [2, -1]:
            self.raises(NoDesk, latest, F, ROW, (0,), thing)
            for function in (news, second_news, third_news):
                self.raises(NoDesk, function, F, ROW, thing)
            for at in range(3):
                desks = [0, 1, 0]
                desks[at] = thing
                self.raises(NoDesk, newer, F, ROW, *desks)
            self.raises(NoDesk, tops, F, ROW, thing, 0)
            self.raises(NoDesk, tops, F, ROW, 1, thing)

    def test_right_things_raise_nothing(self):
        for desk in range(3):
            self.assertEqual(len(news(O, (0, 1, 2), desk)), 3)


if __name__ == "__main__":
    unittest.main()
