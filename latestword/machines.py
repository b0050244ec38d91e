"""Strangers' machines: notes of each desk's own, moved by works, and whether they tell as a book does."""

from latestword.checks import check_row, is_below
from latestword.errors import BadMachine
from latestword.leasts import book_coming, parting_row
from latestword.lots import at_places, replaced
from latestword.searches import rows_coming

MOST_NOTES = 6
MOST_TOGETHER = 200
MOST_TOLD = 9


def are_numbers_of_notes(office, thing):
    """Whether a thing tells for each desk how many notes it has, few enough."""
    if not isinstance(thing, tuple) or len(thing) != office.desks:
        return False
    if not all([is_below(number, MOST_NOTES + 1) and number > 0 for number in thing]):
        return False
    together = 1
    for number in thing:
        together = together * number
    return together <= MOST_TOGETHER


def all_notes(many):
    """All tuples of notes, as many of each as told."""
    found = [()]
    for number in many:
        found = [notes + (own,) for notes in found for own in range(number)]
    return found


def are_notes(many, thing):
    """Whether a thing is a tuple of notes, below as many of each as told."""
    if not isinstance(thing, tuple) or len(thing) != len(many):
        return False
    return all([is_below(own, number) for own, number in zip(thing, many)])


def has_just_keys(thing, keys):
    """Whether a thing is a dict with just these keys."""
    return isinstance(thing, dict) and len(thing) == len(keys) and all([key in thing for key in keys])


def is_table(many, thing):
    """Whether a thing is a dict from each tuple of notes to one, as many of each as told."""
    keys = all_notes(many)
    return has_just_keys(thing, keys) and all([are_notes(many, thing[key]) for key in keys])


def are_moves(office, many, thing):
    if not isinstance(thing, tuple) or len(thing) != len(office.works):
        return False
    return all([
        is_table(at_places(many, desks), table)
        for desks, table in zip(office.works, thing)
    ])


def are_tells(many, thing):
    keys = all_notes(many)
    return has_just_keys(thing, keys) and all([is_below(thing[key], MOST_TOLD + 1) for key in keys])


def copied(table):
    return {key: table[key] for key in table}


class Machine:
    """For each work how it moves the notes of its desks, and what all notes together tell."""

    def __init__(self, office, many, moves, tells):
        if not are_numbers_of_notes(office, many):
            raise BadMachine("many")
        if not are_moves(office, many, moves):
            raise BadMachine("moves")
        if not are_tells(many, tells):
            raise BadMachine("tells")
        self.office = office
        self.many = many
        self.tables = tuple([copied(table) for table in moves])
        self.numbers = copied(tells)

    # Whoever reads these may change what is read: the machine stays as it is.
    @property
    def moves(self):
        return tuple([copied(table) for table in self.tables])

    @property
    def tells(self):
        return copied(self.numbers)

    def __eq__(self, other):
        return (isinstance(other, Machine) and self.office == other.office and self.many == other.many
                and self.tables == other.tables and self.numbers == other.numbers)


def blank_notes(machine):
    return (0,) * machine.office.desks


def moved(machine, notes, work):
    """The notes of all desks behind a work."""
    desks = machine.office.works[work]
    return replaced(notes, desks, machine.tables[work][at_places(notes, desks)])


def notes_behind(machine, row):
    check_row(machine.office, row)
    notes = blank_notes(machine)
    for work in row:
        notes = moved(machine, notes, work)
    return notes


def told_there(machine, row):
    return machine.numbers[notes_behind(machine, row)]


def joined(machine):
    def tell(notes):
        return machine.numbers[notes]

    def lead(notes, work):
        return moved(machine, notes, work)

    return book_coming(machine.office, blank_notes(machine), tell, lead)


def used(machine):
    def beyond(notes):
        return [(work, moved(machine, notes, work)) for work in range(len(machine.office.works))]

    coming = list(rows_coming(blank_notes(machine), beyond))
    return tuple([
        tuple(sorted({notes[desk]: True for notes in coming}))
        for desk in range(machine.office.desks)
    ])


def wrong_row(book, machine):
    return parting_row(book, joined(machine))


def is_for(book, thing):
    if not isinstance(thing, Machine) or thing.office != book.office:
        return False
    return wrong_row(book, thing) is None
