"""Editions: books turned one into the next while they are in use."""

from latestword.turning import check_goals, note_turned


class Editions:
    """Books, the first one numbered 0, and the goals that lead from each one to the next."""

    def __init__(self, book):
        self.books = [book]
        self.goals = []

    def newest(self):
        return len(self.books) - 1

    def put_on(self, other, goals):
        """Makes a book the newest one, and returns its number."""
        check_goals(self.books[-1], other, goals)
        self.books.append(other)
        self.goals.append(goals)
        return self.newest()

    def brought_up(self, held, edition, newer):
        """A note for one edition, turned to a newer one, or the same, one after another."""
        for goals in self.goals[edition:newer]:
            held = note_turned(goals, held)
        return held

    def another(self):
        other = Editions(self.books[0])
        other.books = list(self.books)
        other.goals = list(self.goals)
        return other
