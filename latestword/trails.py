"""Trails: rows led on event by event, with what each event has in its past."""

NO_EVENT = -1


class Trail:
    """A row that is led on, with the names of its events, if they are told.

    Its lasts_in tell, for each event, the tuple of the last events of all desks in its
    past. NO_EVENT is the last event of a desk that has none, and stands there, too.
    """

    def __init__(self, office):
        self.office = office
        self.row = ()
        self.lasts_in = {NO_EVENT: (NO_EVENT,) * office.desks}
        self.names = {NO_EVENT: None}
        self.lasts = (NO_EVENT,) * office.desks

    def lead(self, work, label=None):
        """Puts an event behind the row."""
        event = len(self.row)
        desks = self.office.works[work]
        heard = [self.lasts_in[self.lasts[desk]] for desk in desks]
        self.lasts_in[event] = tuple([
            event if desk in desks else max([lasts[desk] for lasts in heard])
            for desk in range(self.office.desks)
        ])
        self.lasts = tuple([event if desk in desks else last for desk, last in enumerate(self.lasts)])
        self.names[event] = (work, label)
        self.row = self.row + (work,)

    def led_on(self, work, label):
        """Another trail that goes on from this one, which stays as it is."""
        other = Trail(self.office)
        other.row = self.row
        other.lasts = self.lasts
        other.lasts_in = dict(self.lasts_in)
        other.names = dict(self.names)
        other.lead(work, label)
        return other

    def has(self, event, place):
        """Whether an event is in the past of another one, or is it."""
        desk = self.office.works[self.row[place]][0]
        return self.lasts_in[event][desk] >= place

    def news(self, desk):
        return self.lasts_in[self.lasts[desk]]

    def second_news(self, desk):
        return tuple([self.lasts_in[event] for event in self.news(desk)])

    def third_news(self, desk):
        return tuple([
            tuple([self.lasts_in[event] for event in events])
            for events in self.second_news(desk)
        ])

    def second_events(self):
        """The ascending list of the events among the second news of all desks."""
        found = {
            event: True
            for desk in range(self.office.desks)
            for events in self.second_news(desk)
            for event in events
        }
        return sorted([event for event in found if event != NO_EVENT])


def led(office, row):
    """The trail of a row, its events without labels."""
    trail = Trail(office)
    for work in row:
        trail.lead(work)
    return trail
