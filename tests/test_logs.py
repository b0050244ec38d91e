"""Point 1.3: logs, the first fact, what rows have some logs, and how much of them can be done."""

import unittest
from itertools import product

from helper import APART, F, LARGE, O, RING, SMALL, least_of, long_row, odd_things, reached, rows_of, rows_to
from latestword.errors import NoDesk, NoLogs, NoRow
from latestword.logs import done_most, from_logs, log
from latestword.rows import alike, least_row


def log_in_words(office, row, desk):
    return tuple(work for work in row if desk in office.works[work])


def logs_in_words(office, row):
    return tuple(log_in_words(office, row, desk) for desk in range(office.desks))


def works_at(office, desk):
    return [work for work, desks in enumerate(office.works) if desk in desks]


def some_logs(office, most):
    """All tuples of logs with at most so many entries each."""
    each = [
        [own for length in range(most + 1) for own in product(works_at(office, desk), repeat=length)]
        for desk in range(office.desks)
    ]
    return list(product(*each))


class Log(unittest.TestCase):
    def test_by_words(self):
        for office in SMALL + LARGE:
            for row in [(), (0,), long_row(office, 5, 1), long_row(office, 60, 2)]:
                for desk in range(office.desks):
                    self.assertEqual(log(office, row, desk), log_in_words(office, row, desk))

    def test_first_fact(self):
        for office in (F, O, APART):
            rows = rows_of(office, 4)
            for row in rows:
                same = {other for other in rows if logs_in_words(office, other) == logs_in_words(office, row)}
                self.assertEqual(same, set(reached(office, row)))
                for other in rows[::7]:
                    logs = [[log(office, each, desk) for desk in range(office.desks)] for each in (row, other)]
                    self.assertIs(alike(office, row, other), logs[0] == logs[1])

    def test_errors_in_order(self):
        for thing in odd_things():
            if not (isinstance(thing, tuple) and all(type(part) is int and 0 <= part < 3 for part in thing)):
                for desk in (0, 9, None):
                    with self.assertRaises(NoRow) as caught:
                        log(F, thing, desk)
                    self.assertIs(type(caught.exception), NoRow)
        for thing in odd_things() + [2, 3, -1]:
            with self.assertRaises(NoDesk) as caught:
                log(F, (0, 1), thing)
            self.assertIs(type(caught.exception), NoDesk)

    def test_one_wrong_entry(self):
        for row in ((3,), (0, -1), (0, True), (0, 1, None), [0, 1]):
            with self.assertRaises(NoRow):
                log(F, row, 2)


class FromLogs(unittest.TestCase):
    def test_all_small_logs(self):
        for office in (F, O, APART):
            rows = rows_to(office, 4)
            by_logs = {}
            for row in rows:
                by_logs.setdefault(logs_in_words(office, row), []).append(row)
            for logs in some_logs(office, 2):
                total = sum(len(own) for own in logs)
                expected = min(by_logs[logs]) if logs in by_logs else None
                if total <= 4 or office is not APART:
                    self.assertEqual(from_logs(office, logs), expected)

    def test_back_from_rows(self):
        for office in SMALL + LARGE:
            for length in (0, 1, 7, 60):
                row = long_row(office, length, length)
                logs = logs_in_words(office, row)
                self.assertEqual(from_logs(office, logs), least_row(office, row))
                self.assertEqual(done_most(office, logs), tuple(len(own) for own in logs))
            row = long_row(office, 6, 3)
            self.assertEqual(from_logs(office, logs_in_words(office, row)), least_of(office, row))

    def test_no_row_has_them(self):
        self.assertIs(from_logs(F, ((2,), ())), None)
        self.assertIs(from_logs(F, ((2, 0), (1, 1))), None)
        self.assertIs(from_logs(O, ((0, 2), (1, 0), (2, 1))), None)
        self.assertEqual(from_logs(O, ((0, 2), (0, 1), (1, 2))), (0, 1, 2))

    def test_empty(self):
        self.assertEqual(from_logs(F, ((), ())), ())
        self.assertEqual(done_most(F, ((), ())), (0, 0))
        self.assertEqual(done_most(RING, ((),) * 4), (0, 0, 0, 0))


class DoneMost(unittest.TestCase):
    def test_by_words(self):
        for office in (F, O):
            by_logs = [logs_in_words(office, row) for row in rows_to(office, 4)]
            for logs in some_logs(office, 2):
                counts = [
                    tuple(len(own) for own in done) for done in by_logs
                    if all(own == whole[:len(own)] for own, whole in zip(done, logs))
                ]
                best = tuple(max(each) for each in zip(*counts))
                self.assertIn(best, counts)
                self.assertEqual(done_most(office, logs), best)

    def test_stuck(self):
        self.assertEqual(done_most(F, ((2, 0), (1, 1))), (0, 2))
        self.assertEqual(done_most(F, ((0, 2, 0), (1, 1, 2, 1))), (3, 4))
        self.assertEqual(done_most(F, ((0, 2, 2, 0), (1, 2, 1))), (2, 3))
        self.assertEqual(done_most(O, ((0, 2), (1, 0), (2, 1))), (0, 0, 0))
        self.assertEqual(done_most(RING, ((0, 3, 0), (0, 1), (2, 1), (3, 2))), (2, 2, 2, 2))
        self.assertEqual(done_most(RING, ((0, 3), (1, 0), (2, 1), (3, 2))), (0, 0, 0, 0))

    def test_long_logs(self):
        self.assertEqual(done_most(F, ((0,) * 59 + (2,), (1,) * 60)), (59, 60))
        self.assertEqual(from_logs(F, ((0,) * 60, (1,) * 60)), (0,) * 60 + (1,) * 60)
        row = long_row(RING, 60, 9)
        logs = logs_in_words(RING, row)
        cut = logs[:3] + (logs[3][:5],)
        counts = done_most(RING, cut)
        self.assertEqual(counts[3], 5)
        self.assertIsNot(from_logs(RING, tuple(own[:many] for own, many in zip(cut, counts))), None)


class WrongLogs(unittest.TestCase):
    def none(self, thing):
        for function in (from_logs, done_most):
            with self.assertRaises(NoLogs) as caught:
                function(F, thing)
            self.assertIs(type(caught.exception), NoLogs)

    def test_wrong_entries(self):
        for thing in (
            ((1,), ()), ((), (0,)), ((0, 1), (1,)), ((0,), (1, 0)), ((3,), ()), ((-1,), ()), ((True,), ()),
            ((False,), ()), ((0,), (True,)), ((0,), (None,)), (("0",), ()), (((0,),), ()), ((0, [2]), ()),
        ):
            self.none(thing)

    def test_wrong_forms(self):
        for thing in (
            (), ((),), ((), (), ()), ((0,),), ((0,), (1,), ()), [(0,), (1,)], ([0], (1,)), ((0,), [1]), ((0,), None),
            (0, 1), ("", ""), (b"", b""), ({}, {}), {0: (), 1: ()}, (None, None), "01", None, 0,
        ):
            self.none(thing)

    def test_every_kind(self):
        for thing in odd_things():
            if thing != ((), ()):
                self.none(thing)
            self.none((thing, 0))
            self.none(((0,), thing, ()))
            self.none(((0, thing), (1, thing)))

    def test_works_of_no_desk(self):
        with self.assertRaises(NoLogs):
            from_logs(RING, ((1,), (), (), ()))
        with self.assertRaises(NoLogs):
            done_most(RING, ((), (2,), (), ()))


if __name__ == "__main__":
    unittest.main()
