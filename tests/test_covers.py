"""Point 5.4: offices of fewest desks in which just the works of given pairs meet."""

from itertools import combinations, product
import unittest

from helper import Case, lots_of, meeting, odd_things, works_of
from latestword.covers import fewest_desks, office_for
from latestword.errors import NoMany, NoPairs
from latestword.offices import Office, meet


def all_pairs(many):
    return list(combinations(range(many), 2))


def sets_of_pairs(many):
    pairs = all_pairs(many)
    return [tuple(pair for at, pair in enumerate(pairs) if bits >> at & 1) for bits in range(2 ** len(pairs))]


def fewest_in_words(many):
    """For each set of pairs the least number of desks of all offices gone through."""
    found = {}
    desks = 0
    while len(found) < 2 ** len(all_pairs(many)):
        desks += 1
        lots = [lot for lot in lots_of(desks) if lot]
        for works in product(lots, repeat=many):
            pairs = tuple((one, other) for one, other in all_pairs(many) if set(works[one]) & set(works[other]))
            found.setdefault(pairs, desks)
    return found


class Covers(Case):
    def fits(self, many, pairs):
        office = office_for(many, pairs)
        self.assertIs(type(office), Office)
        self.assertEqual(len(office.works), many)
        self.assertEqual(Office(office.desks, office.works), office)
        self.assertTrue(all(len(lot) > 0 for lot in office.works))
        for one, other in all_pairs(many):
            self.assertIs(meeting(office, one, other), (one, other) in pairs)
            self.assertIs(meet(office, one, other), (one, other) in pairs)
        self.assertEqual(office.desks, fewest_desks(many, pairs))

    def test_no_pairs_and_all(self):
        for many in range(1, 6):
            self.assertEqual(fewest_desks(many, ()), many)
            self.assertEqual(fewest_desks(many, tuple(all_pairs(many))), 1)
            self.fits(many, ())
            self.fits(many, tuple(all_pairs(many)))

    def test_all_sets_of_pairs_up_to_four_works(self):
        for many in range(1, 5):
            fewest = fewest_in_words(many)
            for pairs in sets_of_pairs(many):
                self.assertEqual(fewest_desks(many, pairs), fewest[pairs])
                self.fits(many, pairs)

    def test_all_sets_of_pairs_of_five_works(self):
        most = 0
        for pairs in sets_of_pairs(5):
            self.fits(5, pairs)
            most = max(most, fewest_desks(5, pairs))
        self.assertEqual(most, 6)

    def test_five_works(self):
        sides = tuple((one, other) for one in (0, 1) for other in (2, 3, 4))
        self.assertEqual(fewest_desks(5, sides), 6)
        ring = ((0, 1), (0, 4), (1, 2), (2, 3), (3, 4))
        self.assertEqual(fewest_desks(5, ring), 5)
        # A wheel: four triangles about the work 4.
        wheel = ((0, 1), (0, 3), (0, 4), (1, 2), (1, 4), (2, 3), (2, 4), (3, 4))
        self.assertEqual(fewest_desks(5, wheel), 4)
        self.assertEqual(fewest_desks(5, ((0, 1), (0, 2), (1, 2), (2, 3), (2, 4), (3, 4))), 2)
        self.assertEqual(fewest_desks(5, ((0, 1), (0, 2), (1, 2))), 3)
        # All but one pair.
        self.assertEqual(fewest_desks(5, tuple(all_pairs(5))[1:]), 2)

    def test_examples(self):
        self.assertEqual(fewest_desks(3, ((0, 1), (0, 2), (1, 2))), 1)
        self.assertEqual(fewest_desks(3, ((0, 1), (1, 2))), 2)


class Errors(Case):
    def wrong_many(self):
        return [thing for thing in odd_things() if not (type(thing) is int and 1 <= thing <= 5)] + [0, 6, -1, True]

    def test_no_many(self):
        for function in (office_for, fewest_desks):
            for many in self.wrong_many():
                self.raises(NoMany, function, many, ())

    def test_no_many_is_ahead(self):
        for function in (office_for, fewest_desks):
            for many in (0, 6, None, [1], True):
                for pairs in (None, ((1, 0),), [(0, 1)], ((0, 9),)):
                    self.raises(NoMany, function, many, pairs)

    def test_no_pairs(self):
        for function in (office_for, fewest_desks):
            for pairs in (
                ((0, 2), (0, 1)), ((0, 1), (0, 1)), ((1, 0),), ((1, 1),), ((0, 4),), ((0, 1), (3, 4)), ((-1, 0),),
                [(0, 1)], ([0, 1],), ((0, 1), [0, 2]), ((0, 1, 2),), ((0,),), ((),), (0, 1), "01", ("01",), None,
                ((0, True),), ((False, 1),), ((0, None),), ((0, "1"),), {(0, 1): 0}, ((0, 1), None), 0, {}, [], "",
            ):
                self.raises(NoPairs, function, 4, pairs)
            self.raises(NoPairs, function, 1, ((0, 1),))
            self.raises(NoPairs, function, 2, ((0, 1), (0, 2)))

    def test_every_kind(self):
        for function in (office_for, fewest_desks):
            for thing in odd_things():
                if thing != ():
                    self.raises(NoPairs, function, 5, thing)
                if thing != (0, 1):
                    self.raises(NoPairs, function, 5, (thing,))
                self.raises(NoPairs, function, 5, ((0, 1), thing))
                if not (type(thing) is int and thing == 3):
                    self.raises(NoPairs, function, 5, ((0, thing),))

    def test_right_ones_are_let(self):
        self.assertEqual(fewest_desks(2, ((0, 1),)), 1)
        self.assertEqual(works_of(office_for(5, ((3, 4),))), range(5))


if __name__ == "__main__":
    unittest.main()
