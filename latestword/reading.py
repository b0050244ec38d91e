"""Texts read: offices, books and rows from strings, and which line of a text is wrong."""

from latestword.books import Book
from latestword.checks import check_row
from latestword.errors import BadText
from latestword.offices import Office
from latestword.words import is_number_word, is_numbers_word, numbers_in

BEHIND = {
    "": ("desks",),
    "desks": ("work", "standing"),
    "work": ("work", "standing"),
    "standing": ("standing",),
}


def form_of(line):
    """The first word of a line that has one of the forms, "" for any other line."""
    words = line.split(" ")
    many = len(words) - 1
    if not all([is_number_word(word) for word in words[1:]]):
        return ""
    if words[0] == "desks":
        return "desks" if many == 1 else ""
    if words[0] == "work":
        return "work" if many > 0 else ""
    if words[0] == "standing":
        return "standing" if many > 1 else ""
    return ""


def check_lines(lines, rest, forms):
    """Raises BadText for the first line that cannot stand where it does, or for what is lacking at the end."""
    ahead = ""
    for at, line in enumerate(lines):
        form = form_of(line)
        if form not in forms or form not in BEHIND[ahead]:
            raise BadText(at + 1)
        ahead = form
    if rest != "" or len(lines) == 0:
        raise BadText(len(lines) + 1)


def lines_read(text, forms):
    """The list of the pairs (first word, tuple of numbers) of the lines of a text, each of one of some forms."""
    if not isinstance(text, str):
        raise BadText(0)
    parts = text.split("\n")
    check_lines(parts[:-1], parts[-1], forms)
    found = []
    for line in parts[:-1]:
        words = line.split(" ")
        found.append((words[0], tuple([int(word) for word in words[1:]])))
    return found


def numbers_behind(lines, form):
    """The tuple of the numbers of all lines of a form."""
    return tuple([numbers for word, numbers in lines if word == form])


def office_in(lines):
    return Office(lines[0][1][0], numbers_behind(lines, "work"))


def read_office(text):
    return office_in(lines_read(text, ("desks", "work")))


def read_book(text):
    lines = lines_read(text, ("desks", "work", "standing"))
    office = office_in(lines)
    standings = numbers_behind(lines, "standing")
    telling = tuple([numbers[0] for numbers in standings])
    return Book(office, telling, tuple([numbers[1:] for numbers in standings]))


def read_row(office, text):
    if not isinstance(text, str) or not is_numbers_word(text):
        raise BadText(0)
    row = numbers_in(text)
    check_row(office, row)
    return row
