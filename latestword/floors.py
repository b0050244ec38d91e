"""Live floors: works done one by one, by notes alone, and taken back."""

from latestword.checks import check_desk, check_lot, check_work
from latestword.errors import NothingDone
from latestword.knowing import may_be_told
from latestword.lots import at_places, replaced
from latestword.notes import blank_note, change_of_all, note_behind
from latestword.slips import newer_word


class Floor:
    """A book that is led on and back, with the notes of all desks.

    Its stages are triples (work, standing, notes), one behind each work that is not taken
    back, and one for the beginning, that has no work.
    """

    def __init__(self, book):
        blank = blank_note(book)
        self.book = book
        self.stages = [(None, 0, (blank,) * book.office.desks)]

    def work(self, k):
        check_work(self.book.office, k)
        _, standing, notes = self.stages[-1]
        desks = self.book.office.works[k]
        behind = note_behind(self.book, k, at_places(notes, desks))
        led = replaced(notes, desks, (behind,) * len(desks))
        self.stages.append((k, self.book.steps[standing][k], led))

    def done(self):
        return tuple([work for work, _, _ in self.stages[1:]])

    def notes_now(self):
        return self.stages[-1][2]

    def note(self, desk):
        check_desk(self.book.office, desk)
        return self.notes_now()[desk]

    def told(self):
        return self.book.telling[self.stages[-1][1]]

    def may(self, lot):
        check_lot(self.book.office, lot)
        seen = change_of_all(self.book, at_places(self.notes_now(), lot))[0]
        return may_be_told(self.book, seen, lot)

    def newer(self, one, other, desk):
        for named in (one, other, desk):
            check_desk(self.book.office, named)
        notes = self.notes_now()
        return newer_word(notes[one][0], notes[other][0], desk)

    def back(self):
        if self.depth() == 0:
            raise NothingDone()
        self.stages.pop()

    def depth(self):
        return len(self.stages) - 1

    def copy(self):
        other = Floor(self.book)
        other.stages = list(self.stages)
        return other

    def trying(self, action):
        kept = list(self.stages)
        try:
            return action(self)
        finally:
            self.stages = kept
