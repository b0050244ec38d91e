"""Rows of works, and what can be exchanged in them."""

from latestword.checks import are_works, check_row
from latestword.errors import TooMany
from latestword.offices import works_meet

MOST_LISTED = 8
MOST_COUNTED = 20


def all_logs(office, row):
    """For each desk the tuple of its works in a row, in order."""
    return tuple([
        tuple([work for work in row if desk in office.works[work]])
        for desk in range(office.desks)
    ])


def first_ready(teams, logs, counts):
    """The least work that comes next in the logs of all its team, or None."""
    for work, team in enumerate(teams):
        if len(team) > 0 and all([logs[desk][counts[desk]:counts[desk] + 1] == (work,) for desk in team]):
            return work
    return None


def done_by_teams(teams, logs):
    """As done_by_logs, where a work is done by those of its team alone, and by nobody without one."""
    counts = [0] * len(logs)
    row = []
    # Works that are ready together have no desk in common, so that taking one never bars another one.
    work = first_ready(teams, logs, counts)
    while work is not None:
        row.append(work)
        for desk in teams[work]:
            counts[desk] += 1
        work = first_ready(teams, logs, counts)
    return tuple(row), tuple(counts)


def done_by_logs(office, logs):
    """The least row that does as much of some logs as can be done, and how much of each it does."""
    return done_by_teams(office.works, logs)


def is_row(office, thing):
    return are_works(office, thing)


def alike(office, row, other):
    check_row(office, row)
    check_row(office, other)
    return all_logs(office, row) == all_logs(office, other)


def places_in(row, other):
    """For each event of a row the place in an alike one of the event that it becomes."""
    places = {work: [] for work in other}
    for place, work in enumerate(other):
        places[work].append(place)
    taken = {work: 0 for work in other}
    found = []
    for work in row:
        found.append(places[work][taken[work]])
        taken[work] += 1
    return found


def exchanges(office, row, other):
    if not alike(office, row, other):
        return None
    places = places_in(row, other)
    # Each exchange turns one pair of events about, and while a pair stands the wrong
    # way round, some two side by side do, too: so the pairs that do are the answer.
    return sum([
        len([later for later in places[at + 1:] if later < place])
        for at, place in enumerate(places)
    ])


def least_row(office, row):
    check_row(office, row)
    least, _ = done_by_logs(office, all_logs(office, row))
    return least


def layers(office, row):
    check_row(office, row)
    depths = [0] * office.desks
    found = []
    for work in row:
        desks = office.works[work]
        depth = max([depths[desk] for desk in desks])
        if depth == len(found):
            found.append([])
        found[depth].append(work)
        for desk in desks:
            depths[desk] = depth + 1
    return tuple([tuple(sorted(layer)) for layer in found])


def needs_of(office, row):
    """For each event the list of the earlier ones whose works meet its own."""
    return [
        [place for place in range(event) if works_meet(office, row[place], work)]
        for event, work in enumerate(row)
    ]


def ready_events(row, needs, done):
    """The events that can come next behind those of a tuple of flags, by ascending works."""
    ready = [
        (row[event], event) for event, is_done in enumerate(done)
        if not is_done and all([done[place] for place in needs[event]])
    ]
    return [event for _, event in sorted(ready)]


def with_done(done, event):
    return done[:event] + (True,) + done[event + 1:]


def all_alike(office, row):
    check_row(office, row)
    if len(row) > MOST_LISTED:
        raise TooMany(MOST_LISTED)
    needs = needs_of(office, row)
    paths = [((), (False,) * len(row))]
    for _ in row:
        paths = [
            (path + (row[event],), with_done(done, event))
            for path, done in paths
            for event in ready_events(row, needs, done)
        ]
    return [path for path, _ in paths]


def many_alike(office, row):
    check_row(office, row)
    if len(row) > MOST_COUNTED:
        raise TooMany(MOST_COUNTED)
    needs = needs_of(office, row)
    ways = {(False,) * len(row): 1}
    for _ in row:
        longer = {}
        for done, many in ways.items():
            for event in ready_events(row, needs, done):
                beyond = with_done(done, event)
                longer[beyond] = longer.get(beyond, 0) + many
        ways = longer
    return sum(ways.values())


def keeps_least(office, row, work):
    """Whether a work behind a row that is the least alike one makes such a row, too."""
    for done in reversed(row):
        if works_meet(office, done, work):
            return True
        if done > work:
            return False
    return True


def works_behind(office, row):
    """The list of the works that, behind a least row, make another least one."""
    return [work for work in range(len(office.works)) if keeps_least(office, row, work)]
