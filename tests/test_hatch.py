"""Points 14.1 and 14.2: the hatch."""

import unittest

from helper import ALONE, APART, C, Case, Chance, F, IDLE, RING, W, book_by, even_books, long_row, mixed_books, odd_things
from latestword.bars import must_have
from latestword.books import Book, is_even, told
from latestword.errors import (
    BadBook, BadOffice, BadText, NoDesk, NoLine, NoLot, NoName, NoRow, NotEven, NotShareable, NothingDone, OfficeError
)
from latestword.hatch import Hatch
from latestword.knowing import may_tell
from latestword.leasts import is_shareable, torn
from latestword.news import newer
from latestword.rows import least_row
from latestword.slips import labels
from latestword.texts import book_text, row_text

OF_C = "desks 2|work 0|work 1|work 0 1|standing 0 1 0 0|standing 1 0 1 1|"
OF_W = "desks 2|work 0|work 1|work 0 1|standing 0 1 2 0|standing 1 1 1 1|standing 2 2 2 2|"
OF_ONE = "desks 1|work 0|standing 7 0|"


def in_a_line(book):
    return book_text(book).replace("\n", "|")


def commas(numbers):
    return ",".join(map(str, numbers)) or "-"


class HatchCase(Case):
    def setUp(self):
        self.hatch = Hatch()

    def says(self, line, answer):
        found = self.hatch.tell(line)
        self.assertIs(type(found), str)
        self.assertEqual(found, answer)

    def refuses(self, error, told_line, **fields):
        """Just this error, with these fields, and nothing changes."""
        kept = self.whole()
        with self.assertRaises(OfficeError) as caught:
            self.hatch.tell(told_line)
        self.assertIs(type(caught.exception), error)
        self.assertEqual(vars(caught.exception), fields)
        self.assertEqual(self.whole(), kept)

    def whole(self):
        """All that the hatch tells of what it keeps."""
        names = self.hatch.tell("names")
        books = [] if names == "none" else names.split(" ")
        return names, self.hatch.undoable(), [
            (self.hatch.tell("torn " + name), self.hatch.tell("told " + name + " 0")) for name in books
        ]


class Lines(HatchCase):
    def test_book(self):
        self.says("names", "none")
        self.says("book c " + OF_C, "ok")
        self.says("names", "c")
        self.says("told c 0", "1")
        self.assertEqual(self.hatch.books["c"], C)

    def test_names(self):
        for name in ("b", "a", "zzzzzzzz", "ab", "aa", "none"):
            self.says("book " + name + " " + OF_ONE, "ok")
        self.says("names", "a aa ab b none zzzzzzzz")
        self.says("drop ab", "ok")
        self.says("names", "a aa b none zzzzzzzz")

    def test_drop(self):
        self.says("book a " + OF_ONE, "ok")
        self.says("drop a", "ok")
        self.says("names", "none")
        self.refuses(NoName, "drop a", name="a")
        self.refuses(NoName, "told a -", name="a")

    def test_told(self):
        self.says("book c " + OF_C, "ok")
        self.says("book w " + OF_W, "ok")
        for row, one, other in (("-", 0, 0), ("0", 1, 1), ("0,0", 0, 1), ("1,0", 1, 2), ("2,2,0,1", 1, 1)):
            self.says("told c " + row, str(one))
            self.says("told w " + row, str(other))

    def test_least(self):
        self.says("book c " + OF_C, "ok")
        for row, answer in (("-", "-"), ("1,0", "0,1"), ("1,0,2,1,1,0", "0,1,2,0,1,1"), ("2", "2")):
            self.says("least c " + row, answer)

    def test_labels(self):
        self.says("book c " + OF_C, "ok")
        for row, answer in (("-", "-"), ("0", "0"), ("0,0,0", "0,1,0"), ("2,0", "0,0")):
            self.says("labels c " + row, answer)

    def test_newer(self):
        self.says("book c " + OF_C, "ok")
        self.says("newer c 0,2,1,0 0 1 0", "one")
        self.says("newer c 0,2,1,0 1 0 0", "other")
        self.says("newer c 0,2,1,0 0 0 1", "same")
        self.says("newer c - 0 1 0", "same")

    def test_torn(self):
        self.says("book c " + OF_C, "ok")
        self.says("book w " + OF_W, "ok")
        self.says("torn c", "none")
        self.says("torn w", "0,1 0")

    def test_may(self):
        self.says("book c " + OF_C, "ok")
        self.says("may c 0,2 1", "0,1")
        self.says("may c 0,2 0", "1")
        self.says("may c 0,2 -", "0,1")
        self.says("may c - 0,1", "0")

    def test_must(self):
        self.says("book c " + OF_C, "ok")
        self.says("must c 0", "2")
        self.says("must c 1", "1")

    def test_as_the_functions(self):
        chance = Chance(3)
        for seed, book in enumerate(mixed_books() + [book for book in even_books() if len(book.steps) < 13]):
            self.says("book b " + in_a_line(book), "ok")
            office = book.office
            row = long_row(office, seed % 13, seed)
            word = commas(row)
            desks = [chance.below(office.desks) for _ in range(3)]
            self.says("told b " + word, str(told(book, row)))
            self.says("least b " + word, row_text(least_row(office, row)))
            self.says("labels b " + word, commas(labels(office, row)))
            self.says("newer b {} {} {} {}".format(word, *desks), newer(office, row, *desks))
            found = torn(book)
            self.says("torn b", "none" if found is None else commas(found[0]) + " " + str(found[1]))
            if is_even(book):
                lot = tuple(sorted(set(desks)))
                self.says("may b {} {}".format(word, commas(lot)), commas(may_tell(book, row, lot)))
            else:
                self.refuses(NotEven, "may b {} 0".format(word))
            if is_shareable(book):
                self.says("must b {}".format(desks[0]), str(must_have(book, desks[0])))
            else:
                self.refuses(NotShareable, "must b {}".format(desks[0]))

    def test_long_rows(self):
        self.says("book r " + in_a_line(book_by(RING, 5, 3)), "ok")
        row = long_row(RING, 60, 5)
        self.says("least r " + commas(row), commas(least_row(RING, row)))
        self.says("labels r " + commas(row), commas(labels(RING, row)))


class NameForms(HatchCase):
    def test_names_that_are_some(self):
        for name in ("a", "z", "abcdefgh", "zzzzzzzz", "book", "names", "undo", "told"):
            self.says("book " + name + " " + OF_ONE, "ok")
            self.says("told " + name + " 0", "7")
            self.says("drop " + name, "ok")
            self.refuses(NoName, "torn " + name, name=name)

    def test_names_that_are_none(self):
        self.says("book a " + OF_ONE, "ok")
        for name in ("abcdefghi", "A", "aB", "Ab", "a1", "1", "0", "-", "a-b", "a_b", "_", "a.", "|", "a|", "", "\t", "{",
                     "`", "a,b"):
            for line in ("book {} " + OF_ONE, "drop {}", "told {} 0", "least {} 0", "labels {} 0", "newer {} 0 0 0 0",
                         "torn {}", "may {} 0 0", "must {} 0"):
                self.refuses(NoLine, line.format(name))


class WrongLines(HatchCase):
    def setUp(self):
        self.hatch = Hatch()
        self.hatch.tell("book a " + OF_C)

    def test_no_string(self):
        for thing in odd_things():
            if not isinstance(thing, str):
                self.refuses(NoLine, thing)

    def test_strings_of_all_kinds(self):
        for thing in odd_things() + ["names?", "help", "book", "drop", "a", " ", "\t", "-", "told", "NAMES", "Names"]:
            if isinstance(thing, str):
                self.refuses(NoLine, thing)

    def test_blanks_and_line_feeds(self):
        for line in ("drop a", "names", "told a 0", "least a 0,1", "labels a -", "newer a 0 0 1 0", "torn a", "may a 0 0",
                     "must a 0", "undo"):
            wrong = [line + " ", " " + line, line + "\n", "\n" + line, line + "\t", line + " 0", line + " a", line + " -"]
            wrong += [line + "  "]
            if " " in line:
                wrong += [line.replace(" ", "  ", 1), line.replace(" ", "\t", 1), line.replace(" ", "\n", 1)]
                wrong += [line.rpartition(" ")[0], line.rpartition(" ")[0] + " ", "  ".join(line.rsplit(" ", 1))]
                wrong += [line.partition(" ")[0]]
            for other in wrong:
                self.refuses(NoLine, other)
            self.refuses(NoLine, line.upper())

    def test_numbers_and_lists(self):
        for row in ("", ",", "0,", ",0", "00", "01", "0,01", "+0", "-1", "--", "0;1", "a", "1234567890", "(0)", "0.", "|"):
            for line in ("told a {}", "least a {}", "labels a {}", "newer a {} 0 1 0", "may a {} 0", "may a 0 {}"):
                self.refuses(NoLine, line.format(row))
        for desk in ("", "00", "01", "-", "-1", "+1", "0,1", "a", "1234567890", "0x0", "1.0"):
            for line in ("newer a 0 {} 0 0", "newer a 0 0 {} 0", "newer a 0 0 0 {}", "must a {}"):
                self.refuses(NoLine, line.format(desk))

    def test_books_without_a_name_or_a_text(self):
        for line in ("book", "book ", "book a", "book a ", "book  " + OF_C, " book a " + OF_C, "book  a " + OF_C,
                     "book a\t" + OF_C, "book\ta " + OF_C, "book a " + OF_C.replace("|", "\n"), "book a " + OF_C + "\n",
                     "book ab|c " + OF_C, "book abcdefghi " + OF_C, "book A " + OF_C, "Book a " + OF_C, "book |" + OF_C):
            self.refuses(NoLine, line)
        # Here the first word of the text stands where the name should, and is one.
        self.refuses(BadText, "book " + OF_C, line=1)


class BookTexts(HatchCase):
    def test_the_end(self):
        self.refuses(BadText, "book a " + OF_C[:-1], line=6)
        self.refuses(BadText, "book a " + OF_C + " ", line=7)
        self.refuses(BadText, "book a " + OF_C + "|", line=7)
        self.says("book a " + OF_C, "ok")

    def test_blanks(self):
        self.refuses(BadText, "book a  " + OF_C, line=1)
        self.refuses(BadText, "book a  ", line=1)
        self.refuses(BadText, "book a   ", line=1)
        self.refuses(BadText, "book a " + OF_C.replace("|", " |", 1), line=1)
        self.refuses(BadText, "book a " + OF_C.replace("|", "| ", 1), line=2)
        self.refuses(BadText, "book a " + OF_C.replace("work 0 1", "work 0  1"), line=4)
        self.refuses(BadText, "book a " + OF_C.replace("work 0 1", "work 0\t1"), line=4)

    def test_texts_that_are_none(self):
        self.refuses(BadText, "book a x", line=1)
        self.refuses(BadText, "book a |", line=1)
        self.refuses(BadText, "book a ||", line=1)
        self.refuses(BadText, "book a desks 2", line=1)
        self.refuses(BadText, "book a desks 2|work 0|work 00|", line=3)
        self.refuses(BadText, "book a " + OF_C + "work 0|", line=7)
        self.refuses(BadText, "book a " + OF_C + "desks 2|", line=7)

    def test_offices_and_books_that_are_none(self):
        self.refuses(BadOffice, "book a desks 0|work 9|", part="desks")
        self.refuses(BadOffice, "book a desks 2|", part="works")
        self.refuses(BadOffice, "book a desks 2|work 1 0|standing 99 9|", part="works")
        self.refuses(BadBook, "book a desks 2|work 0|", part="telling")
        self.refuses(BadBook, "book a desks 2|work 0|standing 10 9|", part="telling")
        self.refuses(BadBook, "book a desks 2|work 0|standing 9 9|", part="steps")

    def test_an_elder_book_stays(self):
        self.says("book a " + OF_C, "ok")
        for line in ("book a x", "book a desks 9|", "book a desks 1|work 0|standing 0 1|"):
            with self.assertRaises(OfficeError):
                self.hatch.tell(line)
        self.says("told a 0", "1")
        self.assertEqual(self.hatch.undoable(), 1)


class Order(HatchCase):
    def test_the_line_is_ahead_of_the_text(self):
        self.refuses(NoLine, "book A x")
        self.refuses(NoLine, "book a x\n")

    def test_the_line_is_ahead_of_the_name(self):
        for line in ("told a 00", "least a ", "newer a 0 0 0", "may a 0 00", "must a -", "torn a a", "drop a "):
            self.refuses(NoLine, line)

    def test_the_name_is_ahead_of_the_functions(self):
        for line in ("drop a", "told a 9", "least a 9", "labels a 9", "newer a 9 9 9 9", "torn a", "may a 9 1,0", "must a 9"):
            self.refuses(NoName, line, name="a")
        self.hatch.tell("book b " + OF_C)
        for line in ("drop abcdefgh", "told abcdefgh 9", "may abcdefgh 9 1,0"):
            self.refuses(NoName, line, name="abcdefgh")

    def test_what_the_functions_raise(self):
        self.hatch.tell("book c " + OF_C)
        self.hatch.tell("book w " + OF_W)
        for row in ("3", "0,3", "999999999"):
            for line in ("told c {}", "least c {}", "labels c {}", "newer c {} 9 9 9", "may c {} 1,0"):
                self.refuses(NoRow, line.format(row))
        for line in ("newer c 0 2 0 0", "newer c 0 0 2 0", "newer c - 0 0 2", "must c 2", "must c 999999999"):
            self.refuses(NoDesk, line)
        for lot in ("2", "1,0", "0,0", "0,1,2", "0,2"):
            self.refuses(NoLot, "may c 0 " + lot)
        self.refuses(NotEven, "may w 9 9")
        self.refuses(NotShareable, "must w 9")
        self.refuses(NoRow, "told w 3")

    def test_nothing_done(self):
        self.refuses(NothingDone, "undo")
        self.hatch.tell("names")
        self.refuses(NothingDone, "undo")


class Undo(HatchCase):
    def test_a_new_book(self):
        self.says("book a " + OF_C, "ok")
        self.assertEqual(self.hatch.undoable(), 1)
        self.says("undo", "ok")
        self.assertEqual(self.hatch.undoable(), 0)
        self.says("names", "none")
        self.refuses(NothingDone, "undo")

    def test_a_book_in_the_place_of_an_elder_one(self):
        self.says("book a " + OF_C, "ok")
        self.says("book a " + OF_ONE, "ok")
        self.says("told a -", "7")
        self.says("undo", "ok")
        self.says("told a 0", "1")
        self.says("undo", "ok")
        self.says("names", "none")

    def test_the_same_book_once_more(self):
        self.says("book a " + OF_C, "ok")
        self.says("book a " + OF_C, "ok")
        self.assertEqual(self.hatch.undoable(), 2)
        self.says("undo", "ok")
        self.says("names", "a")

    def test_drop(self):
        self.says("book a " + OF_C, "ok")
        self.says("drop a", "ok")
        self.assertEqual(self.hatch.undoable(), 2)
        self.says("undo", "ok")
        self.says("told a 0", "1")
        self.assertEqual(self.hatch.undoable(), 1)

    def test_what_is_taken_back_is_not_taken_back_again(self):
        self.says("book a " + OF_C, "ok")
        self.says("book b " + OF_ONE, "ok")
        self.says("undo", "ok")
        self.says("undo", "ok")
        self.refuses(NothingDone, "undo")
        self.says("book b " + OF_ONE, "ok")
        self.says("names", "b")
        self.assertEqual(self.hatch.undoable(), 1)

    def test_only_book_and_drop_lines(self):
        self.says("book a " + OF_C, "ok")
        for line in ("names", "told a 0", "least a 0", "labels a 0", "newer a 0 0 0 0", "torn a", "may a 0 0", "must a 0"):
            self.hatch.tell(line)
            self.assertEqual(self.hatch.undoable(), 1)
        for line in ("drop b", "book a x", "told a 9", "x", "undo "):
            with self.assertRaises(OfficeError):
                self.hatch.tell(line)
            self.assertEqual(self.hatch.undoable(), 1)

    def test_courses(self):
        """Books put in, dropped and taken back, against all that was there ahead of each line."""
        texts = {0: in_a_line(C), 7: OF_ONE, 3: in_a_line(Book(IDLE, (3,), ((0, 0, 0),)))}
        for seed in range(20):
            chance = Chance(seed)
            self.hatch = Hatch()
            stages = [{}]
            for _ in range(60):
                name = chance.among(["a", "b", "c"])
                here = dict(stages[-1])
                what = chance.below(5)
                if what < 2:
                    here[name] = chance.among(sorted(texts))
                    self.says("book " + name + " " + texts[here[name]], "ok")
                    stages.append(here)
                elif what == 2 and name in here:
                    del here[name]
                    self.says("drop " + name, "ok")
                    stages.append(here)
                elif what == 3 and len(stages) > 1:
                    self.says("undo", "ok")
                    stages.pop()
                else:
                    self.refuses(NoName, "drop no" + name, name="no" + name)
                self.assertEqual(self.hatch.undoable(), len(stages) - 1)
                self.says("names", " ".join(sorted(stages[-1])) or "none")
                for kept, number in stages[-1].items():
                    self.says("told " + kept + " -", str(number))

    def test_hatches_stand_apart(self):
        other = Hatch()
        self.says("book a " + OF_ONE, "ok")
        self.assertEqual((other.tell("names"), other.undoable()), ("none", 0))

    def test_undoable_is_an_integer(self):
        self.assertIs(type(self.hatch.undoable()), int)


class Known(HatchCase):
    def test_books_of_all_offices(self):
        for name, office in (("alone", ALONE), ("apart", APART), ("f", F)):
            self.says("book " + name + " " + in_a_line(book_by(office, 3, 2)), "ok")
        self.says("names", "alone apart f")
        self.says("book w " + in_a_line(W), "ok")
        self.says("torn w", "0,1 0")
        self.says("least alone 0,0", "0,0")
        self.refuses(NoRow, "least alone 1")


if __name__ == "__main__":
    unittest.main()
