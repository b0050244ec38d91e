"""Notes of an even book: slips, and how what the desks know of changes the standings."""

from latestword.books import are_standings, check_even, led_from
from latestword.checks import check_desk, check_lot, check_row, check_work
from latestword.errors import NoNotes
from latestword.lots import all_lots
from latestword.slips import (
    blank_slip, is_slip, is_within, labelled, least_label, newer_word, newest, slip_behind, slip_of
)


def change_along(book, row):
    """How a row changes the standings."""
    return tuple([led_from(book, standing, row) for standing in range(len(book.steps))])


def change_behind(change, later):
    """One change and then a later one."""
    return tuple([later[standing] for standing in change])


def turns_of(book, trail, desk):
    """The turns of the note of a desk behind the row of a trail."""
    heard = trail.news(desk)
    known = [event for event in range(len(trail.row)) if trail.has(trail.lasts[desk], event)]
    found = []
    for lot in all_lots(book.office.desks):
        left = [event for event in known if not any([trail.has(heard[goal], event) for goal in lot])]
        found.append(change_along(book, [trail.row[event] for event in left]))
    return tuple(found)


def note(book, row, desk):
    check_even(book)
    check_row(book.office, row)
    check_desk(book.office, desk)
    trail, _ = labelled(book.office, row)
    return slip_of(trail, desk), turns_of(book, trail, desk)


def blank_note(book):
    check_even(book)
    return blank_slip(book.office), (change_along(book, ()),) * len(all_lots(book.office.desks))


def is_note(book, thing):
    """Whether a thing has a note's form."""
    if not isinstance(thing, tuple) or len(thing) != 2 or not is_slip(book.office, thing[0]):
        return False
    many = len(book.steps)
    turns = thing[1]
    if not isinstance(turns, tuple) or len(turns) != len(all_lots(book.office.desks)):
        return False
    return all([are_standings(change, many, many) for change in turns])


def check_notes(book, thing, many):
    """Raises NoNotes for what is no tuple of so many notes."""
    if not isinstance(thing, tuple) or len(thing) != many:
        raise NoNotes()
    if not all([is_note(book, part) for part in thing]):
        raise NoNotes()


def known_ahead(slips, at, desk):
    """Whether one of the slips ahead of the one at a place has no older news of a desk than it."""
    return any([newer_word(ahead, slips[at], desk) != "other" for ahead in slips[:at]])


class Views:
    """What is in the views of some notes of desks behind one row, and how it changes the standings.

    Of the events in the view of a note, those that stand in the view of another one, or
    in the past of another one's news, are just the pasts of some news of its own. So each
    note's turns tell how its own view changes the standings, less what stands elsewhere.
    """

    def __init__(self, book, notes):
        slips = [held[0] for held in notes]
        desks = list(range(book.office.desks))
        best = [newest(slips, goal) for goal in desks] if len(slips) > 0 else []
        self.book = book
        self.notes = notes
        self.twice = [[desk for desk in desks if known_ahead(slips, at, desk)] for at in range(len(slips))]
        self.inside = [
            [[desk for desk in desks if is_within(own, desk, known, goal)] for goal, known in enumerate(best)]
            for own in slips
        ]
        self.place_of = {lot: place for place, lot in enumerate(all_lots(book.office.desks))}

    def change_but(self, lot):
        """How all events in the views change that are not in the past of the newest news of a lot."""
        change = change_along(self.book, ())
        for at, held in enumerate(self.notes):
            gone = {desk: True for desk in self.twice[at]}
            for goal in lot:
                for desk in self.inside[at][goal]:
                    gone[desk] = True
            change = change_behind(change, held[1][self.place_of[tuple(sorted(gone))]])
        return change


def note_behind(book, work, notes):
    """As worked, of things that are an even book, a work and the notes of its desks."""
    desks = book.office.works[work]
    slips = tuple([held[0] for held in notes])
    behind = slip_behind(book.office, work, least_label(work, slips), slips)
    views = Views(book, notes)
    step = change_along(book, (work,))
    turns = []
    for lot in all_lots(book.office.desks):
        # All that is known is in the past of the work, the newest news of its desks.
        if any([desk in lot for desk in desks]):
            turns.append(change_along(book, ()))
        else:
            turns.append(change_behind(views.change_but(lot), step))
    return behind, tuple(turns)


def worked(book, work, notes):
    check_even(book)
    check_work(book.office, work)
    check_notes(book, notes, len(book.office.works[work]))
    return note_behind(book, work, notes)


def change_of_all(book, notes):
    """How all events in the views of the desks of some notes change, of things that are an even book and its notes."""
    return Views(book, notes).change_but(())


def change_by(book, lot, notes):
    check_even(book)
    check_lot(book.office, lot)
    check_notes(book, notes, len(lot))
    return change_of_all(book, notes)


def stood_by(book, notes):
    return change_by(book, tuple(range(book.office.desks)), notes)[0]


def told_by(book, notes):
    return book.telling[stood_by(book, notes)]
