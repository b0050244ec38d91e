"""Events of a row, what is ahead of them, and what desks have heard of."""

from latestword.checks import check_desk, check_lot, check_row, is_below
from latestword.errors import NoPlace
from latestword.rows import least_row
from latestword.trails import NO_EVENT, led


def check_place(row, place):
    if not is_below(place, len(row)):
        raise NoPlace()


def or_none(event):
    return None if event == NO_EVENT else event


def all_or_none(events):
    return tuple([or_none(event) for event in events])


def ahead(office, row, one, other):
    check_row(office, row)
    check_place(row, one)
    check_place(row, other)
    return one != other and led(office, row).has(other, one)


def past(office, row, place):
    check_row(office, row)
    check_place(row, place)
    trail = led(office, row)
    return tuple([event for event in range(place + 1) if trail.has(place, event)])


def events_in_view(trail, lot):
    return tuple([
        event for event in range(len(trail.row))
        if any([trail.has(trail.lasts[desk], event) for desk in lot])
    ])


def view(office, row, lot):
    check_row(office, row)
    check_lot(office, lot)
    return events_in_view(led(office, row), lot)


def view_row(office, row, lot):
    return least_row(office, tuple([row[event] for event in view(office, row, lot)]))


def heard_by(office, row, place):
    check_row(office, row)
    check_place(row, place)
    trail = led(office, row)
    return tuple([desk for desk, last in enumerate(trail.lasts) if trail.has(last, place)])


def latest(office, row, lot, desk):
    check_row(office, row)
    check_lot(office, lot)
    check_desk(office, desk)
    trail = led(office, row)
    return or_none(max([trail.news(knowing)[desk] for knowing in lot], default=NO_EVENT))


def led_for(office, row, desk):
    """The trail of a row, behind the checks of the row and of a desk."""
    check_row(office, row)
    check_desk(office, desk)
    return led(office, row)


def news(office, row, desk):
    return all_or_none(led_for(office, row, desk).news(desk))


def second_news(office, row, desk):
    trail = led_for(office, row, desk)
    return tuple([all_or_none(events) for events in trail.second_news(desk)])


def third_news(office, row, desk):
    trail = led_for(office, row, desk)
    return tuple([
        tuple([all_or_none(events) for events in rows])
        for rows in trail.third_news(desk)
    ])


def newer(office, row, one, other, desk):
    check_row(office, row)
    for named in (one, other, desk):
        check_desk(office, named)
    trail = led(office, row)
    first = trail.news(one)[desk]
    second = trail.news(other)[desk]
    if first == second:
        return "same"
    return "one" if first > second else "other"


def tops(office, row, one, other):
    check_row(office, row)
    check_desk(office, one)
    check_desk(office, other)
    trail = led(office, row)
    known = events_in_view(trail, (other,))
    both = [event for event in events_in_view(trail, (one,)) if event in known]
    return tuple([
        event for event in both
        if not any([trail.has(later, event) for later in both if later != event])
    ])
