"""Ledgers: long rows of works, kept event by event with what is in the past of each."""

from latestword.checks import check_desk, check_work, is_below
from latestword.cuts import check_counts, check_cut, greatest_within, works_in_cut
from latestword.errors import NoNumber, NoPlace


class Ledger:
    """A row of any length, the marks of its events, and the events of each desk."""

    def __init__(self, office):
        self.office = office
        self.begin_anew()

    def begin_anew(self):
        self.row = []
        self.tallies = []
        self.events = [[] for _ in range(self.office.desks)]

    def put(self, work):
        """Puts a work behind, and returns the number of its event."""
        event = len(self.row)
        team = self.office.works[work]
        # Just ahead of the event, each of its desks knows of what is in the past of its last one.
        known = [self.tallies[self.events[desk][-1]] for desk in team if len(self.events[desk]) > 0]
        for desk in team:
            self.events[desk].append(event)
        self.tallies.append(tuple([
            len(own) if desk in team else max([tally[desk] for tally in known], default=0)
            for desk, own in enumerate(self.events)
        ]))
        self.row.append(work)
        return event

    def check_event(self, event):
        if not is_below(event, len(self.row)):
            raise NoPlace()

    def add(self, work):
        check_work(self.office, work)
        return self.put(work)

    def length(self):
        return len(self.row)

    def kept(self, event):
        self.check_event(event)
        return self.row[event]

    def marks(self, event):
        self.check_event(event)
        return self.tallies[event]

    def ahead(self, one, other):
        self.check_event(one)
        self.check_event(other)
        # By the tenth fact any one desk of the first event tells this.
        desk = self.office.works[self.row[one]][0]
        return one != other and self.tallies[one][desk] <= self.tallies[other][desk]

    def latest(self, event, desk):
        self.check_event(event)
        check_desk(self.office, desk)
        many = self.tallies[event][desk]
        return self.events[desk][many - 1] if many > 0 else None

    def own(self, desk, number):
        check_desk(self.office, desk)
        if not is_below(number, len(self.events[desk])):
            raise NoNumber()
        return self.events[desk][number]

    def counts(self):
        return tuple([len(own) for own in self.events])

    def rolled_back(self, counts):
        check_counts(self.office, self.row, counts)
        return greatest_within(self.office, self.row, counts)

    def cut_back(self, counts):
        check_cut(self.office, self.row, counts)
        left = works_in_cut(self.office, self.row, counts)
        gone = len(self.row) - len(left)
        self.begin_anew()
        for work in left:
            self.put(work)
        return gone
