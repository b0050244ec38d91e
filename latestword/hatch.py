"""The hatch: books kept under names, asked and told of by lines of words."""

from latestword.bars import must_have
from latestword.books import told
from latestword.errors import NoLine, NoName, NothingDone
from latestword.knowing import may_tell
from latestword.leasts import torn
from latestword.news import newer
from latestword.reading import read_book
from latestword.rows import least_row
from latestword.slips import labels
from latestword.texts import row_text
from latestword.words import is_number_word, is_numbers_word, numbers_in, numbers_word

MOST_LETTERS = 8

# What stands behind the first word of each line but that of a book.
FORMS = {
    "drop": ("NAME",),
    "names": (),
    "told": ("NAME", "ROW"),
    "least": ("NAME", "ROW"),
    "labels": ("NAME", "ROW"),
    "newer": ("NAME", "ROW", "DESK", "DESK", "DESK"),
    "torn": ("NAME",),
    "may": ("NAME", "ROW", "LOT"),
    "must": ("NAME", "DESK"),
    "undo": (),
}


def is_name(word):
    return 1 <= len(word) <= MOST_LETTERS and all(["a" <= letter <= "z" for letter in word])


def has_form(form, word):
    if form == "NAME":
        return is_name(word)
    if form == "DESK":
        return is_number_word(word)
    return is_numbers_word(word)


def read_as(form, word):
    """What a word tells that has a form."""
    if form == "NAME":
        return word
    if form == "DESK":
        return int(word)
    return numbers_in(word)


def words_behind(line):
    """The list of what stands behind the first word of a line, for a line that has one of the forms."""
    words = line.split(" ")
    if words[0] not in FORMS:
        raise NoLine()
    forms = FORMS[words[0]]
    if len(words) != len(forms) + 1:
        raise NoLine()
    pairs = list(zip(forms, words[1:]))
    if not all([has_form(form, word) for form, word in pairs]):
        raise NoLine()
    return [read_as(form, word) for form, word in pairs]


def answer_told(book, given):
    return str(told(book, given[0]))


def answer_least(book, given):
    return row_text(least_row(book.office, given[0]))


def answer_labels(book, given):
    return numbers_word(labels(book.office, given[0]))


def answer_newer(book, given):
    row, one, other, desk = given
    return newer(book.office, row, one, other, desk)


def answer_torn(book, given):
    found = torn(book)
    if found is None:
        return "none"
    return row_text(found[0]) + " " + str(found[1])


def answer_may(book, given):
    row, lot = given
    return numbers_word(may_tell(book, row, lot))


def answer_must(book, given):
    return str(must_have(book, given[0]))


ANSWERS = {
    "told": answer_told,
    "least": answer_least,
    "labels": answer_labels,
    "newer": answer_newer,
    "torn": answer_torn,
    "may": answer_may,
    "must": answer_must,
}


class Hatch:
    """Books by their names, and behind each line done, what its name stood for ahead of it."""

    def __init__(self):
        self.books = {}
        self.elders = []

    def tell(self, line):
        if not isinstance(line, str) or "\n" in line:
            raise NoLine()
        first, _, rest = line.partition(" ")
        if first == "book":
            return self.keep(rest)
        given = words_behind(line)
        if first == "names":
            return self.all_names()
        if first == "undo":
            return self.take_back()
        book = self.called(given[0])
        if first == "drop":
            return self.drop(given[0])
        answer = ANSWERS[first]
        return answer(book, given[1:])

    def called(self, name):
        """The book kept under a name."""
        if name not in self.books:
            raise NoName(name)
        return self.books[name]

    def keep(self, rest):
        """Does the line of a book, of which all is told that stands behind its first word."""
        name, _, text = rest.partition(" ")
        if not is_name(name) or text == "":
            raise NoLine()
        book = read_book(text.replace("|", "\n"))
        self.elders.append((name, self.books.get(name)))
        self.books[name] = book
        return "ok"

    def drop(self, name):
        self.elders.append((name, self.books.pop(name)))
        return "ok"

    def all_names(self):
        return " ".join(sorted(self.books)) if len(self.books) > 0 else "none"

    def take_back(self):
        if len(self.elders) == 0:
            raise NothingDone()
        name, elder = self.elders.pop()
        if elder is None:
            self.books.pop(name)
        else:
            self.books[name] = elder
        return "ok"

    def undoable(self):
        return len(self.elders)
