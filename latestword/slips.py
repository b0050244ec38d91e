"""Slips: what a desk knows, by names of events with labels that are used again."""

from latestword.checks import check_desk, check_row, check_work, is_below, is_number
from latestword.errors import NoSlip, NoSlips
from latestword.trails import Trail


def names_for(trail, events):
    return tuple([trail.names[event] for event in events])


def slip_of(trail, desk):
    """The slip of a desk behind the row of a trail, with the names of this trail."""
    return (
        names_for(trail, trail.news(desk)),
        tuple([names_for(trail, events) for events in trail.second_news(desk)]),
        tuple([
            tuple([names_for(trail, events) for events in rows])
            for rows in trail.third_news(desk)
        ]),
    )


def slips_for(trail, work):
    """The slips of the desks of a work, by ascending desks."""
    return tuple([slip_of(trail, desk) for desk in trail.office.works[work]])


def least_label(work, slips):
    """The least label with which a work has no name in the third news of some slips."""
    taken = {
        name: True
        for known in slips
        for rows in known[2]
        for names in rows
        for name in names
    }
    label = 0
    while (work, label) in taken:
        label += 1
    return label


def labelled(office, row):
    """The trail of a row with the labels of the document, and the list of these."""
    trail = Trail(office)
    found = []
    for work in row:
        found.append(least_label(work, slips_for(trail, work)))
        trail.lead(work, found[-1])
    return trail, found


def labels(office, row):
    check_row(office, row)
    _, found = labelled(office, row)
    return tuple(found)


def slip(office, row, desk):
    check_row(office, row)
    check_desk(office, desk)
    trail, _ = labelled(office, row)
    return slip_of(trail, desk)


def blank_slip(office):
    return slip_of(Trail(office), 0)


def is_name(office, thing):
    """Whether a thing is a name, or None for want of one."""
    if thing is None:
        return True
    if not isinstance(thing, tuple) or len(thing) != 2:
        return False
    return is_below(thing[0], len(office.works)) and is_number(thing[1])


def are_names(office, thing, depth):
    """Whether a thing is a name, for depth 0, or a tuple with, for each desk, a thing of less depth."""
    if depth == 0:
        return is_name(office, thing)
    if not isinstance(thing, tuple) or len(thing) != office.desks:
        return False
    return all([are_names(office, part, depth - 1) for part in thing])


def is_slip(office, thing):
    if not isinstance(thing, tuple) or len(thing) != 3:
        return False
    return all([are_names(office, part, at + 1) for at, part in enumerate(thing)])


def check_slip(office, thing):
    if not is_slip(office, thing):
        raise NoSlip()


def check_slips(office, thing, many):
    """Raises NoSlips for what is no tuple of so many slips."""
    if not isinstance(thing, tuple) or len(thing) != many:
        raise NoSlips()
    if not all([is_slip(office, part) for part in thing]):
        raise NoSlips()


def is_within(one, desk, other, goal):
    """As within_by, of things that are slips and desks."""
    name = one[0][desk]
    if name is None or other[0][goal] is None:
        return False
    # What the one knows of the past of the goal's event is in the pasts of the events
    # that both the one's news and the last events in that past name; and the name is
    # in the past of such an event if it is the desk's last one there.
    reached = {heard: True for heard in other[1][goal] if heard is not None}
    return any([
        heard in reached and one[1][at][desk] == name
        for at, heard in enumerate(one[0])
    ])


def newer_word(one, other, desk):
    """As newer_by, of things that are slips and a desk."""
    if one[0][desk] == other[0][desk]:
        return "same"
    if one[0][desk] is None or is_within(one, desk, other, desk):
        return "other"
    return "one"


def newest(slips, desk):
    """The first of some slips such that none has newer news of a desk."""
    best = slips[0]
    for other in slips[1:]:
        if newer_word(best, other, desk) == "other":
            best = other
    return best


def slip_behind(office, work, label, slips):
    """The slip of each desk of a work that is done with a label, from those ahead of it."""
    desks = office.works[work]
    name = (work, label)
    best = [newest(slips, desk) for desk in range(office.desks)]
    first = tuple([
        name if desk in desks else known[0][desk]
        for desk, known in enumerate(best)
    ])
    second = tuple([
        first if desk in desks else known[1][desk]
        for desk, known in enumerate(best)
    ])
    third = tuple([
        second if desk in desks else known[2][desk]
        for desk, known in enumerate(best)
    ])
    return first, second, third


def passed(office, work, slips):
    check_work(office, work)
    check_slips(office, slips, len(office.works[work]))
    return slip_behind(office, work, least_label(work, slips), slips)


def newer_by(office, one, other, desk):
    check_slip(office, one)
    check_slip(office, other)
    check_desk(office, desk)
    return newer_word(one, other, desk)


def within_by(office, one, desk, other, goal):
    check_slip(office, one)
    check_desk(office, desk)
    check_slip(office, other)
    check_desk(office, goal)
    return is_within(one, desk, other, goal)
