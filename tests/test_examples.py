"""The examples e01 to e17 of the document, to the letter."""

import unittest

from latestword.audits import audited, row_of
from latestword.bars import must_have
from latestword.begins import common, joint
from latestword.books import Book
from latestword.counting import apart_lots, many_rows, row_at
from latestword.covers import fewest_desks
from latestword.cuts import carried_on, is_cut, many_cuts, rolled_back
from latestword.hearing import fewest_to_hear
from latestword.knowing import may_tell, sure
from latestword.labelling import clashing, fewest_labels
from latestword.leasts import is_shareable, may_be_apart, torn
from latestword.logs import done_most, from_logs, log
from latestword.news import newer, news, tops
from latestword.notes import note
from latestword.offices import Office, apart_pairs, works_without
from latestword.rows import exchanges, layers, least_row
from latestword.slips import labels, slip
from latestword.turning import are_goals, least_goals

f = Office(2, ((0,), (1,), (0, 1)))
o = Office(3, ((0, 1), (1, 2), (0, 2)))
c = Book(f, (0, 1), ((1, 0, 0), (0, 1, 1)))
w = Book(f, (0, 1, 2), ((1, 2, 0), (1, 1, 1), (2, 2, 2)))


class Examples(unittest.TestCase):
    def test_e01(self):
        self.assertEqual(apart_pairs(f), [(0, 1)])
        self.assertEqual(apart_pairs(o), [])
        self.assertEqual(works_without(o, (0,)), (1,))

    def test_e02(self):
        self.assertEqual(least_row(f, (1, 0, 2)), (0, 1, 2))
        self.assertEqual(layers(f, (1, 0, 2)), ((0, 1), (2,)))
        self.assertEqual(exchanges(f, (0, 1), (1, 0)), 1)

    def test_e03(self):
        self.assertEqual(log(f, (0, 1, 2, 0), 1), (1, 2))
        self.assertEqual(from_logs(f, ((0, 2), (2,))), (0, 2))
        self.assertEqual(done_most(f, ((2, 0), (1, 1))), (0, 2))

    def test_e04(self):
        self.assertEqual(common(f, (0, 1), (0, 0)), (0,))
        self.assertEqual(joint(f, (0,), (1,)), (0, 1))
        self.assertIs(joint(f, (0,), (2,)), None)

    def test_e05(self):
        self.assertEqual(news(f, (0, 2, 1, 0), 1), (1, 2))
        self.assertEqual(newer(f, (0, 2, 1, 0), 0, 1, 0), "one")
        self.assertEqual(tops(f, (0, 2, 1, 0), 0, 1), (1,))

    def test_e06(self):
        self.assertEqual(labels(f, (0, 0, 0)), (0, 1, 0))
        self.assertEqual(slip(f, (1,), 1)[0], (None, (1, 0)))

    def test_e07(self):
        self.assertEqual(fewest_labels(f, (0, 0, 0)), 1)
        self.assertEqual(clashing(f, (0, 2, 0, 0)), [])

    def test_e08(self):
        self.assertIs(is_shareable(w), False)
        self.assertEqual(torn(w), ((0, 1), 0))
        self.assertEqual(may_be_apart(c), [(0, 1), (0, 2), (1, 2)])

    def test_e09(self):
        self.assertEqual(fewest_desks(3, ((0, 1), (0, 2), (1, 2))), 1)
        self.assertEqual(fewest_desks(3, ((0, 1), (1, 2))), 2)

    def test_e10(self):
        self.assertEqual(note(c, (0,), 0)[1], ((1, 0), (0, 1), (0, 1), (1, 0)))

    def test_e11(self):
        self.assertEqual(must_have(c, 0), 2)
        self.assertEqual(must_have(c, 1), 1)

    def test_e12(self):
        self.assertEqual(may_tell(c, (0, 2), (1,)), (0, 1))
        self.assertEqual(sure(c, (0, 2), (0,)), 1)

    def test_e13(self):
        self.assertEqual(fewest_to_hear(f, (0,), 1), (2,))

    def test_e14(self):
        self.assertEqual(many_rows(f, 2), 8)
        self.assertEqual(apart_lots(f), (1, 3, 1))
        self.assertEqual(row_at(f, 2, 1), (0, 1))

    def test_e15(self):
        self.assertIs(is_cut(f, (0, 2, 1), (1, 0)), True)
        self.assertEqual(rolled_back(f, (0, 2, 1), (2, 0)), (1, 0))
        self.assertEqual(carried_on(f, (0, 2, 1), (2, 0)), (2, 1))
        self.assertEqual(many_cuts(f, (0, 2, 1)), 4)

    def test_e16(self):
        self.assertIs(are_goals(c, c, (0, 1)), True)
        self.assertEqual(least_goals(c), (0, 1))

    def test_e17(self):
        self.assertEqual(audited(f, (((0, 1, 2),), ())), ("lacking", 0, 1, 1))
        self.assertEqual(row_of(f, (((0, 1, 2),), ((0, 1, 2),))), (2,))


if __name__ == "__main__":
    unittest.main()
