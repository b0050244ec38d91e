"""Books turned into other ones: goals, and notes that are turned by them."""

from latestword.books import are_standings, check_even
from latestword.errors import NoGoals, NoNote, NotComing
from latestword.leasts import check_match, least_book
from latestword.notes import is_note
from latestword.searches import rows_coming


def are_goals_to(book, other, thing):
    """As are_goals, of books of one office."""
    if not are_standings(thing, len(book.steps), len(other.steps)) or thing[0] != 0:
        return False
    if len({goal: True for goal in thing}) != len(other.steps):
        return False
    return all([
        tuple([thing[there] for there in step]) == other.steps[goal]
        for step, goal in zip(book.steps, thing)
    ])


def are_goals(book, other, thing):
    check_match(book, other)
    return are_goals_to(book, other, thing)


def check_goals(book, other, goals):
    """Raises NoMatch for books of unlike offices, and NoGoals."""
    if not are_goals(book, other, goals):
        raise NoGoals()


def change_turned(goals, change):
    """A change of standings turned into one of their goals."""
    there = {goal: goals[standing] for goal, standing in zip(goals, change)}
    return tuple([there[goal] for goal in range(len(there))])


def note_turned(goals, held):
    """As turned, of things that are goals and a note."""
    known, turns = held
    return known, tuple([change_turned(goals, change) for change in turns])


def turned(book, other, goals, held):
    check_even(book)
    check_goals(book, other, goals)
    if not is_note(book, held):
        raise NoNote()
    return note_turned(goals, held)


def least_goals(book):
    least = least_book(book)

    def beyond(pair):
        return list(enumerate(zip(book.steps[pair[0]], least.steps[pair[1]])))

    pairs = list(rows_coming((0, 0), beyond))
    # One standing comes with one of the least book alone, the one that tells the same.
    if len(pairs) < len(book.steps):
        raise NotComing()
    return tuple([goal for _, goal in sorted(pairs)])
