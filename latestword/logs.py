"""Logs: what each desk has done, and what rows can come of it."""

from latestword.checks import check_desk, check_row, is_integer
from latestword.errors import NoLogs
from latestword.offices import own_works
from latestword.rows import all_logs, done_by_logs


def log(office, row, desk):
    check_row(office, row)
    check_desk(office, desk)
    return all_logs(office, row)[desk]


def are_logs(office, thing):
    """Whether a thing is a tuple with, for each desk, a tuple of works of this desk."""
    if not isinstance(thing, tuple) or len(thing) != office.desks:
        return False
    return all([is_log(office, desk, part) for desk, part in enumerate(thing)])


def is_log(office, desk, thing):
    own = own_works(office, desk)
    return isinstance(thing, tuple) and all([is_integer(work) and work in own for work in thing])


def check_logs(office, logs):
    if not are_logs(office, logs):
        raise NoLogs()


def from_logs(office, logs):
    check_logs(office, logs)
    row, counts = done_by_logs(office, logs)
    return row if counts == tuple([len(own) for own in logs]) else None


def done_most(office, logs):
    check_logs(office, logs)
    _, counts = done_by_logs(office, logs)
    return counts
