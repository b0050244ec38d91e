"""What the whole logs of some desks tell, where nothing is known of the others."""

from latestword.books import lead_alike
from latestword.checks import check_lot
from latestword.errors import NoLogs
from latestword.leasts import least_book
from latestword.logs import is_log
from latestword.offices import works_meet
from latestword.rows import done_by_teams


def check_known_logs(office, lot, logs):
    """Raises NoLot, and NoLogs for what is no tuple with a log for each desk of the lot."""
    check_lot(office, lot)
    if not isinstance(logs, tuple) or len(logs) != len(lot):
        raise NoLogs()
    if not all([is_log(office, desk, log) for desk, log in zip(lot, logs)]):
        raise NoLogs()


def teams_in(office, lot):
    """For each work the tuple of the places in a lot of its desks there."""
    return tuple([
        tuple([place for place, desk in enumerate(lot) if desk in desks])
        for desks in office.works
    ])


def least_with(office, lot, logs):
    check_known_logs(office, lot, logs)
    # Works that are in no log are left out of a shortest row, and each other one is in it.
    row, counts = done_by_teams(teams_in(office, lot), logs)
    return row if counts == tuple([len(log) for log in logs]) else None


def counted_on(team, work, logs, counts):
    """How much of the logs is done behind a work, None if one of its team does not come to it yet."""
    if not all([logs[place][counts[place]:counts[place] + 1] == (work,) for place in team]):
        return None
    return tuple([count + 1 if place in team else count for place, count in enumerate(counts)])


def is_free(book, work):
    """Whether a work leads, with each work apart from it, in either order to the same standings."""
    return all([
        works_meet(book.office, work, other) or lead_alike(book, work, other)
        for other in range(len(book.office.works))
    ])


class LogSearch:
    """The rows with some logs of a lot's desks, as they go on through the standings of a book."""

    def __init__(self, book, lot, logs):
        self.book = book
        self.logs = logs
        self.teams = teams_in(book.office, lot)
        self.at_once = [
            work for work, desks in enumerate(book.office.works)
            if all([desk in lot for desk in desks]) and is_free(book, work)
        ]

    def by_works(self, here, works):
        """What comes by one of some works, as (how much of the logs is done, standing)."""
        counts, standing = here
        found = []
        for work in works:
            behind = counted_on(self.teams[work], work, self.logs, counts)
            if behind is not None:
                found.append((behind, self.book.steps[standing][work]))
        return found

    def beyond(self, here):
        # A work of the lot alone that comes next in all its logs is ahead, in each row,
        # of all that it meets: where it leads alike in either order, it may come at once.
        first = self.by_works(here, self.at_once)
        if len(first) > 0:
            return first[:1]
        return self.by_works(here, list(range(len(self.teams))))

    def ends(self):
        """The list of the standings behind the rows that have the whole logs."""
        whole = tuple([len(log) for log in self.logs])
        start = ((0,) * len(self.logs), 0)
        found = {start: True}
        left = [start]
        while len(left) > 0:
            here = left.pop()
            for there in self.beyond(here):
                if there not in found:
                    found[there] = True
                    left.append(there)
        return [standing for counts, standing in found if counts == whole]


def may_from_logs(book, lot, logs):
    if least_with(book.office, lot, logs) is None:
        return ()
    least = least_book(book)
    return tuple(sorted({least.telling[standing]: True for standing in LogSearch(least, lot, logs).ends()}))
