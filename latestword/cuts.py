"""Cuts: what all desks together may have done of a row at some moment, by counts of their events."""

from latestword.checks import check_row, is_below
from latestword.errors import NoCounts, NoCut, TooMany
from latestword.rows import least_row

MOST_CUT = 20


def own_numbers(office, row):
    """For each event the list of the pairs (desk, number): which one it is of each of its desks' own."""
    many = [0] * office.desks
    found = []
    for work in row:
        found.append([(desk, many[desk]) for desk in office.works[work]])
        for desk in office.works[work]:
            many[desk] += 1
    return found


def own_counts(office, row):
    """The tuple with, for each desk, how many events of its own a row has."""
    return tuple([
        len([work for work in row if desk in office.works[work]])
        for desk in range(office.desks)
    ])


def are_counts(office, row, thing):
    if not isinstance(thing, tuple) or len(thing) != office.desks:
        return False
    return all([is_below(count, most + 1) for count, most in zip(thing, own_counts(office, row))])


def check_counts(office, row, counts):
    if not are_counts(office, row, counts):
        raise NoCounts()


def is_split(counts, own):
    """Whether an event is counted by some of its desks, but not by all."""
    flags = [number < counts[desk] for desk, number in own]
    return any(flags) and not all(flags)


def are_cut(office, row, counts):
    """Whether counts for a row count each event by all its desks or by none."""
    return not any([is_split(counts, own) for own in own_numbers(office, row)])


def is_cut(office, row, thing):
    check_row(office, row)
    return are_counts(office, row, thing) and are_cut(office, row, thing)


def with_event(counts, own):
    """Counts that count an event, too, and all that its desks did ahead of it."""
    found = list(counts)
    for desk, number in own:
        found[desk] = max(found[desk], number + 1)
    return tuple(found)


def greatest_within(office, row, counts):
    """The greatest cut of a row that is at no desk more than some counts."""
    cut = (0,) * office.desks
    for own in own_numbers(office, row):
        # An event is in the cut if all its desks count it, and all that they did ahead of it is.
        if all([cut[desk] == number < counts[desk] for desk, number in own]):
            cut = with_event(cut, own)
    return cut


def least_beyond(office, row, counts):
    """The least cut of a row that is at no desk less than some counts."""
    cut = counts
    # Later events come first: they alone can bring earlier ones into the cut.
    for own in reversed(own_numbers(office, row)):
        if any([number < cut[desk] for desk, number in own]):
            cut = with_event(cut, own)
    return cut


def rolled_back(office, row, counts):
    check_row(office, row)
    check_counts(office, row, counts)
    return greatest_within(office, row, counts)


def carried_on(office, row, counts):
    check_row(office, row)
    check_counts(office, row, counts)
    return least_beyond(office, row, counts)


def works_in_cut(office, row, counts):
    """The tuple of the works of the events that a cut of a row counts, in their order."""
    numbers = own_numbers(office, row)
    # All desks of an event tell the same of it: the first one is asked.
    return tuple([work for work, own in zip(row, numbers) if own[0][1] < counts[own[0][0]]])


def check_cut(office, row, counts):
    """Raises NoCounts, and NoCut for counts of a row that are no cut."""
    check_counts(office, row, counts)
    if not are_cut(office, row, counts):
        raise NoCut()


def cut_row(office, row, counts):
    check_row(office, row)
    check_cut(office, row, counts)
    return least_row(office, works_in_cut(office, row, counts))


def many_cuts(office, row):
    check_row(office, row)
    if len(row) > MOST_CUT:
        raise TooMany(MOST_CUT)
    cuts = [(0,) * office.desks]
    for own in own_numbers(office, row):
        cuts = cuts + [
            with_event(cut, own) for cut in cuts
            if all([cut[desk] == number for desk, number in own])
        ]
    return len(cuts)
