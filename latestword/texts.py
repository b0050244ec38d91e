"""Texts: offices, books and rows as strings."""

from latestword.words import numbers_word


def line_of(word, numbers):
    return " ".join([word] + [str(number) for number in numbers]) + "\n"


def office_text(office):
    works = [line_of("work", desks) for desks in office.works]
    return line_of("desks", (office.desks,)) + "".join(works)


def book_text(book):
    standings = [line_of("standing", (number,) + step) for number, step in zip(book.telling, book.steps)]
    return office_text(book.office) + "".join(standings)


def row_text(row):
    return numbers_word(row)
