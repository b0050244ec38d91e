"""Point 13.1: offices, books and rows as texts, and texts read."""

import re
import unittest

from helper import (
    ALONE, APART, C, Case, Chance, F, LARGE, O, SIX, SMALL, W, book_by, even_books, long_row, machine_by, mixed_books,
    odd_things
)
from latestword.books import Book
from latestword.errors import BadBook, BadOffice, BadText, NoRow
from latestword.machines import joined
from latestword.offices import Office
from latestword.reading import read_book, read_office, read_row
from latestword.texts import book_text, office_text, row_text

OF_F = "desks 2\nwork 0\nwork 1\nwork 0 1\n"
OF_C = OF_F + "standing 0 1 0 0\nstanding 1 0 1 1\n"
NUMBER = "(0|[1-9][0-9]{0,8})"
DESKS = re.compile("desks {0}".format(NUMBER))
WORK = re.compile("work( {0})+".format(NUMBER))
STANDING = re.compile("standing {0}( {0})+".format(NUMBER))
WRONG_NUMBERS = ("00", "01", "+1", "-1", "1.0", "1e1", "0x1", "1_0", "a", "1234567890", "0000000001", "1,0", "|")


def wrong_line(text, is_book):
    """The number of the line for which BadText is due, None if the text has the form."""
    lines = text.split("\n")
    stage = 0
    for at, line in enumerate(lines[:-1]):
        if DESKS.fullmatch(line) and stage == 0:
            stage = 1
        elif WORK.fullmatch(line) and stage == 1:
            pass
        elif STANDING.fullmatch(line) and stage in (1, 2) and is_book:
            stage = 2
        else:
            return at + 1
    if lines[-1] or len(lines) == 1:
        return len(lines)
    return None


class TextCase(Case):
    def field(self, error, value, function, *arguments):
        with self.assertRaises(error) as caught:
            function(*arguments)
        self.assertIs(type(caught.exception), error)
        self.assertEqual(list(vars(caught.exception).values()), [value])

    def bad(self, line, text):
        """The text is wrong in this line, read as an office and as a book."""
        self.field(BadText, line, read_office, text)
        self.field(BadText, line, read_book, text)

    def compare(self, text):
        """What is due for a text, by looking for its lines."""
        for function, is_book in ((read_office, False), (read_book, True)):
            line = wrong_line(text, is_book)
            if line is not None:
                self.field(BadText, line, function, text)
            else:
                self.read(function, text, is_book)

    def read(self, function, text, is_book):
        numbers = [(line.split()[0], tuple(map(int, line.split()[1:]))) for line in text.splitlines()]
        works = tuple(own for word, own in numbers if word == "work")
        steps = tuple(own for word, own in numbers if word == "standing")
        try:
            wanted = Office(numbers[0][1][0], works)
            if is_book:
                wanted = Book(wanted, tuple(own[0] for own in steps), tuple(own[1:] for own in steps))
        except (BadOffice, BadBook) as error:
            self.field(type(error), error.part, function, text)
        else:
            self.assertEqual(function(text), wanted)


class Texts(TextCase):
    def test_some(self):
        self.assertEqual(office_text(F), OF_F)
        self.assertEqual(book_text(C), OF_C)
        self.assertEqual(office_text(ALONE), "desks 1\nwork 0\n")
        self.assertEqual(book_text(Book(ALONE, (9,), ((0,),))), "desks 1\nwork 0\nstanding 9 0\n")
        self.assertEqual([row_text(row) for row in ((), (0,), (0, 2, 1), (9, 9))], ["-", "0", "0,2,1", "9,9"])
        self.assertEqual(office_text(O), "desks 3\nwork 0 1\nwork 1 2\nwork 0 2\n")

    def test_standings_of_two_figures(self):
        book = Book(ALONE, (0,) * 12, tuple((11 - at,) for at in range(12)))
        self.assertEqual(book_text(book).split("\n")[2:5], ["standing 0 11", "standing 0 10", "standing 0 9"])

    def test_there_and_back(self):
        for office in SMALL + LARGE:
            self.assertEqual(read_office(office_text(office)), office)
        for book in mixed_books() + [book_by(SIX, 12, 3, 10)]:
            self.assertEqual(read_book(book_text(book)), book)
            self.assertEqual(book_text(read_book(book_text(book))), book_text(book))
        for office in SMALL + LARGE:
            for length in (0, 1, 2, 60, 200):
                row = long_row(office, length, 4)
                self.assertEqual(read_row(office, row_text(row)), row)

    def test_books_that_are_too_large_to_be_made(self):
        for book in even_books() + [joined(machine_by(SIX, (2,) * 6, 2))]:
            text = book_text(book)
            self.assertEqual(text.count("\n"), 1 + len(book.office.works) + len(book.steps))
            if len(book.steps) > 12:
                self.field(BadBook, "telling", read_book, text)
            else:
                self.assertEqual(read_book(text), book)


class Forms(TextCase):
    def test_no_string(self):
        for thing in odd_things():
            if not isinstance(thing, str):
                self.bad(0, thing)

    def test_strings_of_all_kinds(self):
        for thing in odd_things():
            if isinstance(thing, str):
                self.bad(1, thing)

    def test_lacking_at_the_end(self):
        self.bad(1, "")
        self.bad(1, "desks 2")
        self.bad(1, "x")
        self.bad(1, " ")
        self.bad(2, "desks 2\nwork 0")
        self.bad(2, "desks 2\n ")
        self.bad(4, OF_F[:-1])
        self.field(BadText, 6, read_book, OF_C[:-1])
        self.field(BadText, 7, read_book, OF_C + " ")
        self.field(BadText, 7, read_book, OF_C + "standing 0 0 0 0")
        self.bad(5, OF_F + "desks")

    def test_a_wrong_line_is_told_ahead_of_what_is_lacking(self):
        self.bad(1, "\n")
        self.bad(1, "desk 2\nwork 0")
        self.bad(2, "desks 2\nwork\nwork 0")
        self.bad(2, "desks 2\nwork 00\nwork 0\nwork 00\n")
        self.bad(2, "desks 2\n\nwork 0")

    def test_blanks(self):
        for at, line in enumerate(OF_C.split("\n")[:-1]):
            for wrong in (line + " ", " " + line, line.replace(" ", "  ", 1), line.replace(" ", "\t"), line + "\t",
                          line.replace(" ", ""), line + "\r", line + "|", "", " ", "\t"):
                text = OF_C.replace(line + "\n", wrong + "\n", 1)
                self.field(BadText, at + 1, read_book, text)
                if at < 4:
                    self.bad(at + 1, "".join(text.split("standing")[0]))

    def test_numbers(self):
        for wrong in WRONG_NUMBERS:
            self.bad(1, OF_F.replace("desks 2", "desks " + wrong))
            self.bad(3, OF_F.replace("work 1", "work " + wrong))
            self.bad(4, OF_F.replace("work 0 1", "work 0 " + wrong))
            for line in ("standing " + wrong + " 0 0 0", "standing 0 " + wrong + " 0 0", "standing 0 0 0 " + wrong):
                self.field(BadText, 5, read_book, OF_F + line + "\n")

    def test_nine_figures(self):
        self.field(BadOffice, "desks", read_office, OF_F.replace("desks 2", "desks 999999999"))
        self.field(BadOffice, "works", read_office, OF_F.replace("work 1", "work 100000000"))
        self.field(BadBook, "telling", read_book, OF_F + "standing 123456789 0 0 0\n")
        self.field(BadBook, "steps", read_book, OF_F + "standing 9 0 0 123456789\n")

    def test_how_many_numbers(self):
        self.bad(1, "desks\nwork 0\n")
        self.bad(1, "desks 2 2\nwork 0\n")
        self.bad(2, "desks 2\nwork\n")
        for line in ("standing", "standing 0"):
            self.field(BadText, 5, read_book, OF_F + line + "\n")

    def test_other_words(self):
        for line in ("", "desk 1", "Desks 1", "works 0", "Work 0", "standings 0 0", "0", "0 0", "# work 0", "row 0", "-"):
            self.bad(1, line + "\n" + OF_F)
            self.bad(3, OF_F.replace("work 1", line))
            self.bad(5, OF_F + line + "\n")

    def test_lines_where_they_cannot_stand(self):
        self.bad(1, "work 0\ndesks 2\n")
        self.bad(1, "standing 0 0\ndesks 2\n")
        self.bad(2, "desks 2\ndesks 2\nwork 0\n")
        self.bad(3, "desks 2\nwork 0\ndesks 2\n")
        self.field(BadText, 6, read_book, OF_F + "standing 0 0 0 0\nwork 0\n")
        self.field(BadText, 6, read_book, OF_F + "standing 0 0 0 0\ndesks 2\n")
        self.field(BadText, 3, read_book, "desks 2\nstanding 0 0\nwork 0\nstanding 0 0\n")

    def test_offices_have_no_standings(self):
        self.field(BadText, 5, read_office, OF_C)
        self.field(BadText, 2, read_office, "desks 2\nstanding 0 0\n")
        self.field(BadText, 2, read_office, "desks 9\nstanding 0 0\nwork 0")

    def test_one_sign_wrong(self):
        """Signs put in, left out and put in the place of others, at each place."""
        for sign in " \n\t019|-w,":
            for at in range(len(OF_C) + 1):
                self.compare(OF_C[:at] + sign + OF_C[at:])
                self.compare(OF_C[:at] + sign + OF_C[at + 1:])
                self.compare(OF_C[:at] + OF_C[at + 1:])

    def test_lines_of_all_kinds(self):
        chance = Chance(5)
        kinds = ["desks 1", "desks 2", "work 0", "work 0 1", "work 1 0", "standing 0 0", "standing 3 0 1", "work", ""]
        for _ in range(2000):
            lines = ["desks 2"] * chance.below(2) + [chance.among(kinds) for _ in range(chance.below(5))]
            text = "\n".join(lines) + "\n" * chance.below(2)
            self.compare(text)


class Parts(TextCase):
    def test_offices(self):
        for text in ("desks 0\nwork 0\n", "desks 7\nwork 0\n", "desks 0\n", "desks 0\nwork 5 5\n"):
            self.field(BadOffice, "desks", read_office, text)
            self.field(BadOffice, "desks", read_book, text)
        for works in ("", "work 2\n", "work 1 0\n", "work 0 0\n", "work 0\n" * 11, "work 0\nwork 0 1 2\n"):
            self.field(BadOffice, "works", read_office, "desks 2\n" + works)
            self.field(BadOffice, "works", read_book, "desks 2\n" + works)
        self.assertEqual(read_office("desks 6\n" + "work 5\n" * 10), Office(6, ((5,),) * 10))

    def test_no_works(self):
        self.field(BadOffice, "works", read_office, "desks 2\n")
        self.field(BadOffice, "works", read_book, "desks 2\n")
        self.field(BadOffice, "works", read_book, "desks 2\nstanding 0 0\n")
        self.field(BadOffice, "works", read_book, "desks 2\nstanding 99 99 99\n")

    def test_books(self):
        self.field(BadBook, "telling", read_book, OF_F)
        self.field(BadBook, "telling", read_book, OF_F + "standing 10 0 0 0\n")
        self.field(BadBook, "telling", read_book, OF_F + "standing 0 0 0 0\n" * 13)
        self.field(BadBook, "telling", read_book, OF_F + "standing 10 9 9\n")
        for line in ("standing 0 0 0 1", "standing 0 0 0", "standing 0 0 0 0 0", "standing 0 0"):
            self.field(BadBook, "steps", read_book, OF_F + line + "\n")
        self.assertEqual(len(read_book(OF_F + "standing 0 11 0 0\n" * 12).steps), 12)

    def test_offices_come_ahead_of_books(self):
        self.field(BadOffice, "desks", read_book, "desks 7\nwork 9\nstanding 10 0\n")
        self.field(BadOffice, "works", read_book, "desks 6\nwork 9\nstanding 10 0\n")
        self.field(BadText, 4, read_book, "desks 7\nwork 9\nstanding 10 0\nwork 0\n")


class Rows(TextCase):
    def test_some(self):
        self.assertEqual(read_row(F, "-"), ())
        self.assertEqual(read_row(F, "0"), (0,))
        self.assertEqual(read_row(F, "2,0,1,1"), (2, 0, 1, 1))
        self.assertEqual(read_row(F, ",".join(["2"] * 500)), (2,) * 500)
        self.assertEqual(read_row(SIX, "9,8,7"), (9, 8, 7))

    def test_no_such_word(self):
        for thing in ("", ",", "0,", ",0", "0,,1", "0, 1", "0 1", " 0", "0 ", "--", "-,0", "0,-", "-1", "+1", "0,-1",
                      "00", "01", "0,01", "1234567890", "0,1234567890", "0\n", "-\n", "\n", "0\n1", "0;1", "0|1", "()",
                      "(0,)", "a", "0.0", "0\t", "1e0", "0x0", "1_0", " ", "- ", " -", "none"):
            self.field(BadText, 0, read_row, F, thing)
        for thing in odd_things():
            if thing != "0":
                self.field(BadText, 0, read_row, F, thing)

    def test_no_row(self):
        for thing in ("3", "0,3", "3,0", "0,1,2,3,0", "999999999", "10"):
            self.raises(NoRow, read_row, F, thing)
        self.raises(NoRow, read_row, ALONE, "1")
        self.raises(NoRow, read_row, SIX, "10")
        self.field(BadText, 0, read_row, F, "3,00")

    def test_the_word_for_no_works_of_any_office(self):
        for office in SMALL + LARGE:
            self.assertEqual(read_row(office, "-"), ())


class Kept(TextCase):
    def test_objects_stay_as_they_were(self):
        for thing in (F, W, APART):
            kept = dict(vars(thing))
            (book_text if thing is W else office_text)(thing)
            self.assertEqual(vars(thing), kept)

    def test_books_are_new(self):
        first = read_book(OF_C)
        self.assertIsNot(read_book(OF_C), first)
        self.assertEqual(read_book(OF_C), first)
        self.assertEqual((first.office, first), (F, C))


if __name__ == "__main__":
    unittest.main()
