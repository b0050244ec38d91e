"""Points 18.1 to 18.4: long drawn courses of lines, against the words of the document and the twelfth fact."""

import unittest

from helper import (
    APART, C, Case, Chance, F, O, RING, SIX, SIX_RING, STAR, adding_book, chain_of_books, even_books, machine_by
)
from latestword.audits import audited, row_of
from latestword.books import told
from latestword.leasts import least_book
from latestword.lines import Line
from latestword.logs import log
from latestword.machines import joined
from latestword.notes import note
from latestword.rows import least_row
from latestword.turning import least_goals
from line_words import LineInWords

QUIET = {"call": 6, "bring": 20, "again": 1}
WILD = {"call": 8, "bring": 20, "lose": 3, "double": 3, "fall": 2, "rise": 4, "again": 3, "turn": 1, "step_up": 2}
LATE = {"call": 9, "bring": 12, "double": 6, "fall": 1, "rise": 3, "again": 4, "turn": 1, "step_up": 2}


class Course:
    """A line, and what the words of the document tell, led on by chance alike."""

    def __init__(self, case, books, ways, seed):
        self.case = case
        self.books = books[:1]
        self.coming = list(zip(books[1:], ways))
        self.line = Line(books[0])
        self.words = LineInWords(books[0])
        self.chance = Chance(seed)
        self.office = books[0].office

    def both(self, name, *arguments):
        found = getattr(self.line, name)(*arguments)
        self.case.assertEqual(found, getattr(self.words, name)(*arguments))
        return found

    def step(self, name):
        air = [letter[0] for letter in self.line.letters()]
        desk = self.chance.below(self.office.desks)
        is_up = self.line.state(desk)[0]
        if name == "call":
            self.both("call", self.chance.below(len(self.office.works)))
        elif name in ("bring", "lose", "double") and air:
            self.both(name, self.chance.among(air))
        elif name == "fall" and is_up or name == "rise" and not is_up or name == "step_up" and is_up or name == "again":
            self.both(name, desk)
        elif name == "turn" and self.coming and self.chance.below(5) == 0:
            other, goals = self.coming.pop(0)
            self.books.append(other)
            self.both("turn", other, goals)

    def go(self, shares, length):
        names = [name for name, many in sorted(shares.items()) for _ in range(many)]
        for at in range(length):
            self.step(self.chance.among(names))
            self.compare(at % 6 == 0)

    def compare(self, notes_too):
        case, line, words = self.case, self.line, self.words
        case.assertEqual(line.letters(), words.letters())
        case.assertEqual(line.done(), words.done())
        for desk in range(self.office.desks):
            case.assertEqual(line.state(desk), words.state(desk))
            case.assertEqual(line.journal(desk), words.journal(desk))
            if notes_too:
                case.assertEqual(line.note(desk), words.note(desk))
                self.twelfth_fact(desk)
        self.told()

    def told(self):
        bound = any(self.line.state(desk)[2] != "free" for desk in range(self.office.desks))
        wanted = None if bound else told(self.books[-1], self.line.done())
        self.case.assertEqual(self.line.told(), wanted)

    def twelfth_fact(self, desk):
        row = self.line.done()
        _, edition, bound, _, work = self.line.state(desk)
        works = tuple(entry[2] for entry in self.line.journal(desk))
        own = log(self.office, row, desk)
        if bound == "promised" and works != own:
            self.case.assertEqual(works + (work,), own)
            row = row[:max(at for at, done in enumerate(row) if desk in self.office.works[done])]
        else:
            self.case.assertEqual(works, own)
        self.case.assertEqual(self.line.note(desk), note(self.books[edition], row, desk))

    def settle(self):
        self.both("settle")
        self.compare(True)
        self.case.assertEqual(self.line.letters(), [])
        self.case.assertEqual(self.line.told(), told(self.books[-1], self.line.done()))
        for desk in range(self.office.desks):
            self.case.assertEqual(self.line.state(desk)[0::2], (True, "free", None))
        journals = tuple(self.line.journal(desk) for desk in range(self.office.desks))
        self.case.assertIs(audited(self.office, journals), None)
        self.case.assertEqual(row_of(self.office, journals), least_row(self.office, self.line.done()))
        for leader, turn, work in [entry for journal in journals for entry in journal]:
            self.case.assertEqual(self.office.works[work][0], leader)
            self.case.assertGreater(turn, 0)


def chains():
    many = [(F, (2, 3)), (O, (2, 2, 2)), (RING, (2, 1, 2, 2)), (STAR, (2, 2, 1, 3)), (APART, (2, 2, 3))]
    found = [chain_of_books(office, own, seed) for seed in (1, 2, 4) for office, own in many]
    book = joined(machine_by(SIX, (2,) * 6, 2))
    found.append(([book, least_book(book)], [least_goals(book)]))
    book = adding_book(SIX_RING, 12, (1, 2, 3, 4, 5, 6))
    half = adding_book(SIX_RING, 6, (1, 2, 3, 4, 5, 0))
    found.append(([book, book, half], [tuple(range(12)), tuple(standing % 6 for standing in range(12))]))
    return found


class Courses(Case):
    def go(self, shares, length, seeds):
        done = 0
        editions = 0
        for seed in seeds:
            for at, (books, ways) in enumerate(chains()):
                course = Course(self, books, ways, seed * 100 + at)
                course.go(shares, length)
                course.settle()
                done += len(course.line.done())
                editions += len(course.books) - 1
        return done, editions

    def test_quiet(self):
        done, _ = self.go(QUIET, 100, (1,))
        self.assertGreater(done, 200)

    def test_wild(self):
        done, editions = self.go(WILD, 150, (2, 3))
        self.assertGreater(done, 200)
        self.assertGreater(editions, 10)

    def test_late(self):
        done, editions = self.go(LATE, 130, (4,))
        self.assertGreater(done, 80)
        self.assertGreater(editions, 4)

    def test_settled_again_and_again(self):
        for at, (books, ways) in enumerate(chains()[:8]):
            course = Course(self, books, ways, 900 + at)
            for _ in range(6):
                course.go(WILD, 25)
                course.settle()

    def test_copies_on_the_way(self):
        for at, book in enumerate(even_books()[::3]):
            course = Course(self, [book], [], 50 + at)
            course.go(LATE, 60)
            left = course.line
            course.line = left.copy()
            kept = [left.letters(), left.done(), [left.state(desk) for desk in range(book.office.desks)]]
            course.go(WILD, 60)
            course.settle()
            self.assertEqual([left.letters(), left.done(), [left.state(desk) for desk in range(book.office.desks)]], kept)

    def test_hundreds_of_works(self):
        line = Line(C)
        chance = Chance(8)
        for _ in range(500):
            line.call(chance.below(3))
            if chance.below(3) == 0:
                line.settle()
        line.settle()
        self.assertGreater(len(line.done()), 300)
        self.assertEqual(line.told(), told(C, line.done()))
        for desk in (0, 1):
            self.assertEqual(line.note(desk), note(C, line.done(), desk))


if __name__ == "__main__":
    unittest.main()
