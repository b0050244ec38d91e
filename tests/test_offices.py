"""Point 1.1: offices, works that meet and works that are apart, lots of desks."""

import unittest

from helper import F, LARGE, O, SIX, SMALL, lots_of, meeting, odd_things, works_of
from latestword.books import Book
from latestword.errors import BadOffice, NoDesk, NoLot, NoWork
from latestword.offices import Office, apart_pairs, meet, own_works, works_within, works_without


class Making(unittest.TestCase):
    def bad(self, part, desks, works):
        with self.assertRaises(BadOffice) as caught:
            Office(desks, works)
        self.assertEqual(caught.exception.part, part)
        self.assertIs(type(caught.exception), BadOffice)

    def test_attributes(self):
        office = Office(2, ((0,), (1,), (0, 1)))
        self.assertEqual((office.desks, office.works), (2, ((0,), (1,), (0, 1))))
        self.assertIs(type(office.desks), int)
        self.assertIs(type(office.works), tuple)

    def test_how_many_desks(self):
        for desks in range(1, 7):
            self.assertEqual(Office(desks, ((0,),)).desks, desks)
        for desks in (-1, 0, 7, 8, 10 ** 39):
            self.bad("desks", desks, ((0,),))

    def test_how_many_works(self):
        for many in range(1, 11):
            self.assertEqual(len(Office(1, ((0,),) * many).works), many)
        for many in (0, 11, 12, 1000):
            self.bad("works", 1, ((0,),) * many)

    def test_works_are_lots_and_not_empty(self):
        for works in (
            ((),), ((0,), ()), ((1, 0),), ((0, 0),), ((0, 1, 1),), ((2,),), ((0, 2),), ((-1,),), ((-1, 0),),
            [(0,)], ([0],), ((0,), [1]), (0,), ((True,),), ((False,),), ((0, True),), ("0",), ("01",),
            (b"\x00",), ({0: 1},), (None,), None, "", {}, ((None,),), ((0, "1"),), (((0,),),), ((0,), (0, (1,))),
        ):
            with self.subTest(works=works):
                self.bad("works", 2, works)

    def test_all_desks_may_do_a_work(self):
        lot = (0, 1, 2, 3, 4, 5)
        self.assertEqual(Office(6, (lot, lot)).works, (lot, lot))
        self.bad("works", 5, (lot,))

    def test_desks_of_every_kind(self):
        for thing in odd_things():
            if not (isinstance(thing, int) and not isinstance(thing, bool) and 1 <= thing <= 6):
                self.bad("desks", thing, ((0,),))

    def test_works_of_every_kind(self):
        good = [((0,),), ((0, 1),)]
        for thing in odd_things():
            if thing not in good:
                self.bad("works", 2, thing)
                if not isinstance(thing, (tuple, list)) or thing not in ((0,), (1,), (0, 1)):
                    self.bad("works", 2, ((0,), thing))

    def test_desks_are_told_first(self):
        for desks in (0, 7, True, None, "2", [2], (2,)):
            for works in (None, (), ((9,),), [(0,)]):
                self.bad("desks", desks, works)

    def test_a_work_right_for_more_desks_only(self):
        self.bad("works", 1, ((1,),))
        self.assertEqual(Office(2, ((1,),)).works, ((1,),))


class Equality(unittest.TestCase):
    def test_equal_just_if_both_are(self):
        self.assertTrue(Office(2, ((0,),)) == Office(2, ((0,),)))
        self.assertFalse(Office(2, ((0,),)) != Office(2, ((0,),)))
        for other in (Office(3, ((0,),)), Office(2, ((1,),)), Office(2, ((0,), (0,))), Office(2, ((0, 1),))):
            self.assertFalse(Office(2, ((0,),)) == other)
            self.assertTrue(Office(2, ((0,),)) != other)

    def test_order_of_works_counts(self):
        self.assertTrue(Office(2, ((0,), (1,))) != Office(2, ((1,), (0,))))

    def test_unlike_other_kinds(self):
        class Alike:
            desks, works = F.desks, F.works

        book = Book(F, (0,), ((0, 0, 0),))
        for thing in odd_things() + [Alike(), book, (F.desks, F.works), (2, F.works), [2, F.works]]:
            if thing is not F:
                self.assertIs(F == thing, False)
                self.assertIs(F != thing, True)
                self.assertIs(thing == F, False)
                self.assertIs(thing != F, True)


class Meeting(unittest.TestCase):
    def test_meet_by_words(self):
        for office in SMALL + LARGE:
            for one in works_of(office):
                for other in works_of(office):
                    self.assertIs(meet(office, one, other), meeting(office, one, other))

    def test_a_work_meets_itself(self):
        for work in works_of(SIX):
            self.assertIs(meet(SIX, work, work), True)

    def test_unlike_works_of_one_lot_meet(self):
        self.assertIs(meet(Office(1, ((0,), (0,))), 0, 1), True)

    def test_no_work(self):
        for thing in odd_things() + [(), 3, -1, 10]:
            if isinstance(thing, int) and not isinstance(thing, bool) and 0 <= thing < 3:
                continue
            for pair in ((thing, 0), (0, thing), (thing, thing)):
                with self.assertRaises(NoWork) as caught:
                    meet(F, *pair)
                self.assertIs(type(caught.exception), NoWork)

    def test_first_and_last_work(self):
        self.assertIs(meet(SIX, 0, 9), True)
        self.assertIs(meet(F, 2, 0), True)
        self.assertIs(meet(F, 1, 0), False)

    def test_apart_pairs(self):
        self.assertEqual(apart_pairs(F), [(0, 1)])
        self.assertEqual(apart_pairs(O), [])
        for office in SMALL + LARGE:
            pairs = [
                (one, other) for one in works_of(office) for other in works_of(office)
                if one < other and not meeting(office, one, other)
            ]
            self.assertEqual(apart_pairs(office), pairs)

    def test_apart_pairs_are_new_each_time(self):
        first = apart_pairs(F)
        first.append("mine")
        self.assertEqual(apart_pairs(F), [(0, 1)])
        self.assertIs(type(first), list)


class Lots(unittest.TestCase):
    def test_own_works(self):
        self.assertEqual(own_works(F, 0), (0, 2))
        self.assertEqual(own_works(F, 1), (1, 2))
        self.assertEqual(own_works(Office(3, ((0,),)), 2), ())
        for office in SMALL + LARGE:
            for desk in range(office.desks):
                own = tuple(work for work in works_of(office) if desk in office.works[work])
                self.assertEqual(own_works(office, desk), own)

    def test_no_desk(self):
        for thing in odd_things() + [2, 6]:
            with self.assertRaises(NoDesk) as caught:
                own_works(F, thing)
            self.assertIs(type(caught.exception), NoDesk)

    def test_within_and_without(self):
        for office in SMALL + LARGE:
            for lot in lots_of(office.desks):
                within = tuple(k for k in works_of(office) if set(office.works[k]) <= set(lot))
                without = tuple(k for k in works_of(office) if not set(office.works[k]) & set(lot))
                self.assertEqual(works_within(office, lot), within)
                self.assertEqual(works_without(office, lot), without)

    def test_empty_and_whole(self):
        self.assertEqual(works_within(F, ()), ())
        self.assertEqual(works_without(F, ()), (0, 1, 2))
        self.assertEqual(works_within(F, (0, 1)), (0, 1, 2))
        self.assertEqual(works_without(F, (0, 1)), ())
        self.assertEqual(works_without(O, (0,)), (1,))

    def test_no_lot(self):
        wrong = [(1, 0), (0, 0), (0, 1, 1), (2,), (0, 2), (-1,), (-1, 0), [0], [], (True,), (0, True), None, 0, "0", "",
                 {}, {0: 0}, (None,), ((0,),), b"", b"\x00", range(1)]
        right = [(), (0,), (1,), (0, 1)]
        for thing in wrong + [odd for odd in odd_things() if odd not in right]:
            for function in (works_within, works_without):
                with self.assertRaises(NoLot) as caught:
                    function(F, thing)
                self.assertIs(type(caught.exception), NoLot)


if __name__ == "__main__":
    unittest.main()
