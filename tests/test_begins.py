"""Point 1.4: rows that begin other ones, what is common to two and what joins them."""

import unittest

from helper import (
    ALONE_TWICE, APART, F, LARGE, O, SMALL, least_of, long_row, odd_things, reached, rows_of, rows_to,
)
from latestword.begins import begins, common, gone_on, joint
from latestword.errors import NoRow
from latestword.rows import alike, least_row

ALL = [begins, gone_on, common, joint]


def splits(office, row, leasts):
    """For the least row of each row that begins a row, by words, all least rows that lead on to it."""
    found = {}
    for other in reached(office, row):
        for cut in range(len(row) + 1):
            found.setdefault(leasts[other[:cut]], set()).add(leasts[other[cut:]])
    return found


class AgainstAllRows(unittest.TestCase):
    def each(self, office, most):
        """Goes through all least rows with at most so many works."""
        leasts = {row: least_of(office, row) for row in rows_to(office, 2 * most)}
        reps = [row for row in leasts if row == leasts[row]]
        begun_by = {row: splits(office, row, leasts) for row in reps}
        short = [row for row in reps if len(row) <= most]
        for row in short:
            for other in short:
                self.pair(office, begun_by, row, other)

    def pair(self, office, begun_by, row, other):
        self.assertIs(begins(office, row, other), row in begun_by[other])
        self.assertEqual(gone_on(office, row, other), min(begun_by[other].get(row, ()), default=None))
        both = set(begun_by[row]) & set(begun_by[other])
        longest = [each for each in both if len(each) == max(map(len, both))]
        self.assertEqual(longest, [common(office, row, other)])
        self.assertTrue(all(each in begun_by[longest[0]] for each in both))
        beyond = [each for each in begun_by if row in begun_by[each] and other in begun_by[each]]
        shortest = [each for each in beyond if len(each) == min(map(len, beyond))]
        found = joint(office, row, other)
        self.assertEqual([] if found is None else [found], shortest)
        self.assertTrue(all(found in begun_by[each] for each in beyond))

    def test_of_f(self):
        self.each(F, 3)

    def test_of_a_ring(self):
        self.each(O, 2)

    def test_of_works_apart(self):
        self.each(APART, 3)

    def test_of_one_desk(self):
        self.each(ALONE_TWICE, 3)


class AnyAlikeRow(unittest.TestCase):
    def test_alike_rows_give_the_same(self):
        for office in (F, APART):
            for row in rows_of(office, 3):
                for other in rows_to(office, 3):
                    least = least_of(office, row)
                    for function in ALL:
                        self.assertEqual(function(office, row, other), function(office, least, other))
                        self.assertEqual(function(office, other, row), function(office, other, least))


class Ordinary(unittest.TestCase):
    def test_empty_row_and_itself(self):
        for office in SMALL:
            for row in rows_to(office, 2) + [long_row(office, 60, 4)]:
                least = least_row(office, row)
                self.assertIs(begins(office, (), row), True)
                self.assertIs(begins(office, row, row), True)
                self.assertIs(begins(office, row, ()), row == ())
                self.assertEqual(gone_on(office, (), row), least)
                self.assertEqual(gone_on(office, row, row), ())
                self.assertEqual(gone_on(office, row, ()), None if row else ())
                self.assertEqual(common(office, row, row), least)
                self.assertEqual(common(office, row, ()), ())
                self.assertEqual(joint(office, row, row), least)
                self.assertEqual(joint(office, (), row), least)

    def test_alike_rows(self):
        self.assertIs(begins(F, (1, 0), (0, 1)), True)
        self.assertEqual(gone_on(F, (1, 0), (0, 1)), ())
        self.assertEqual(common(F, (1, 0), (0, 1)), (0, 1))
        self.assertEqual(joint(F, (1, 0), (0, 1)), (0, 1))

    def test_examples(self):
        self.assertEqual(common(F, (0, 1), (0, 0)), (0,))
        self.assertEqual(joint(F, (0,), (1,)), (0, 1))
        self.assertIs(joint(F, (0,), (2,)), None)

    def test_some(self):
        self.assertIs(begins(F, (1,), (0, 1, 2)), True)
        self.assertIs(begins(F, (2,), (0, 2)), False)
        self.assertEqual(gone_on(F, (1,), (0, 0, 1, 2)), (0, 0, 2))
        self.assertIs(gone_on(F, (1,), (2, 1)), None)
        self.assertEqual(gone_on(F, (0,), (0, 1, 0)), (0, 1))
        self.assertIs(joint(O, (0,), (1,)), None)
        self.assertEqual(joint(APART, (2, 2), (0, 1)), (0, 1, 2, 2))
        self.assertIs(joint(F, (0, 0), (0, 2)), None)

    def test_two_works_of_one_lot_are_unlike(self):
        self.assertIs(begins(ALONE_TWICE, (0,), (1, 0)), False)
        self.assertEqual(common(ALONE_TWICE, (0, 1), (0, 0)), (0,))
        self.assertIs(joint(ALONE_TWICE, (0,), (1,)), None)


class LongRows(unittest.TestCase):
    def test_sixty_works(self):
        for office in SMALL + LARGE:
            row = long_row(office, 60, 11)
            for cut in (0, 1, 30, 59):
                head, rest = row[:cut], row[cut:]
                self.assertIs(begins(office, head, row), True)
                self.assertEqual(gone_on(office, head, row), least_row(office, rest))
                self.assertEqual(common(office, head, row), least_row(office, head))
                self.assertEqual(joint(office, head, row), least_row(office, row))

    def test_facts_of_unlike_rows(self):
        for office in SMALL + LARGE:
            head = long_row(office, 20, 1)
            row = head + long_row(office, 40, 2)
            other = head + long_row(office, 40, 3)
            shared = common(office, row, other)
            self.assertIs(begins(office, head, shared), True)
            for each in (row, other):
                self.assertIs(begins(office, shared, each), True)
                self.assertIs(alike(office, shared + gone_on(office, shared, each), each), True)
            found = joint(office, row, other)
            if found is not None:
                self.assertEqual(len(found), 120 - len(shared))
                self.assertIs(begins(office, row, found) and begins(office, other, found), True)

    def test_joint_longer_than_sixty(self):
        found = joint(F, (0,) * 60, (1,) * 60)
        self.assertEqual(found, (0,) * 60 + (1,) * 60)
        self.assertEqual(common(F, found, (0,) * 60), (0,) * 60)
        self.assertEqual(gone_on(F, (1,) * 60, found), (0,) * 60)


class Errors(unittest.TestCase):
    def test_no_row(self):
        for thing in odd_things() + [(3,), (0, -1), [0], (0, True)]:
            if isinstance(thing, tuple) and all(type(part) is int and 0 <= part < 3 for part in thing):
                continue
            for function in ALL:
                for pair in ((thing, (0,)), ((0,), thing), (thing, thing)):
                    with self.assertRaises(NoRow) as caught:
                        function(F, *pair)
                    self.assertIs(type(caught.exception), NoRow)


if __name__ == "__main__":
    unittest.main()
