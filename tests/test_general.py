"""Part 0, points 0.2 to 0.5, and the interface: what holds for every function and class alike."""

import copy
import importlib
import inspect
import unittest

from helper import C, F, RING, W, long_row, machine_by, nested
from latestword.books import Book
from latestword.errors import OfficeError
from latestword.machines import Machine
from latestword.notes import note
from latestword.offices import Office
from latestword.slips import blank_slip, slip
from latestword.texts import book_text, office_text

INTERFACE = {
    "offices": {
        "Office": "desks works", "meet": "office one other", "apart_pairs": "office", "own_works": "office desk",
        "works_within": "office lot", "works_without": "office lot",
    },
    "rows": {
        "is_row": "office thing", "alike": "office row other", "exchanges": "office row other",
        "least_row": "office row", "layers": "office row", "all_alike": "office row", "many_alike": "office row",
    },
    "logs": {"log": "office row desk", "done_most": "office logs", "from_logs": "office logs"},
    "begins": {
        "begins": "office row other", "common": "office row other", "gone_on": "office row other",
        "joint": "office row other",
    },
    "news": {
        "ahead": "office row one other", "past": "office row place", "view": "office row lot",
        "heard_by": "office row place", "tops": "office row one other", "view_row": "office row lot",
        "latest": "office row lot desk", "news": "office row desk", "second_news": "office row desk",
        "third_news": "office row desk", "newer": "office row one other desk",
    },
    "slips": {
        "labels": "office row", "slip": "office row desk", "blank_slip": "office", "passed": "office work slips",
        "newer_by": "office one other desk", "within_by": "office one desk other goal",
    },
    "labelling": {
        "are_right": "office row labels", "first_wrong": "office row labels", "clashing": "office row",
        "fewest_labels": "office row", "dealt": "office row dealer", "judged_dealer": "office dealer many",
    },
    "books": {"Book": "office telling steps", "stood": "book row", "told": "book row", "is_even": "book"},
    "leasts": {
        "same": "one other", "parting_row": "one other", "least_book": "book", "is_shareable": "book", "torn": "book",
        "may_be_apart": "book",
    },
    "covers": {"office_for": "many pairs", "fewest_desks": "many pairs"},
    "notes": {
        "note": "book row desk", "blank_note": "book", "worked": "book work notes", "change_by": "book lot notes",
        "stood_by": "book notes", "told_by": "book notes",
    },
    "machines": {
        "Machine": "office many moves tells", "notes_behind": "machine row", "used": "machine",
        "told_there": "machine row", "joined": "machine", "wrong_row": "book machine", "is_for": "book thing",
    },
    "bars": {"must_have": "book desk", "bar_rows": "book desk", "is_bar": "book desk thing"},
    "hands": {"judged": "book worker teller many"},
    "knowing": {
        "may_tell": "book row lot", "sure": "book row lot", "who_sure": "book row", "fewest_sure": "book row",
        "may_tell_by": "book lot notes",
    },
    "fromlogs": {"least_with": "office lot logs", "may_from_logs": "book lot logs"},
    "hearing": {"fewest_to_hear": "office row desk", "fewest_for_all": "office row"},
    "counting": {
        "apart_lots": "office", "many_told": "book length", "many_rows": "office length",
        "row_number": "office row", "row_at": "office length number",
    },
    "floors": {"Floor": "book"},
    "texts": {"office_text": "office", "book_text": "book", "row_text": "row"},
    "reading": {"read_office": "text", "read_book": "text", "read_row": "office text"},
    "hatch": {"Hatch": ""},
    "cuts": {
        "is_cut": "office row thing", "rolled_back": "office row counts", "carried_on": "office row counts",
        "cut_row": "office row counts", "many_cuts": "office row",
    },
    "ledgers": {"Ledger": "office"},
    "turning": {"are_goals": "book other thing", "turned": "book other goals held", "least_goals": "book"},
    "lines": {"Line": "book"},
    "audits": {"audited": "office journals", "row_of": "office journals"},
}
METHODS = {
    "Floor": {
        "work": "k", "done": "", "note": "desk", "told": "", "may": "lot", "newer": "one other desk", "back": "",
        "depth": "", "copy": "", "trying": "action",
    },
    "Hatch": {"tell": "line", "undoable": ""},
    "Ledger": {
        "add": "work", "length": "", "kept": "event", "marks": "event", "ahead": "one other", "latest": "event desk",
        "own": "desk number", "counts": "", "rolled_back": "counts", "cut_back": "counts",
    },
    "Line": {
        "call": "work", "letters": "", "bring": "number", "lose": "number", "double": "number", "fall": "desk",
        "rise": "desk", "again": "desk", "turn": "other goals", "step_up": "desk", "done": "", "state": "desk",
        "note": "desk", "journal": "desk", "told": "", "settle": "", "copy": "",
    },
}
LIVE = ("Floor", "Hatch", "Ledger", "Line")


def module(name):
    return importlib.import_module("latestword." + name)


def first_free(work, slips):
    names = {name for held in slips for rows in held[2] for part in rows for name in part}
    return min(label for label in range(len(names) + 1) if (work, label) not in names)


M = machine_by(F, (2, 3), 2)


def leave_blank(work, notes):
    return (None,) * len(notes)


def tell_none(notes):
    return 0


def calls():
    """A right call of each function, and one of each class."""
    row = (1, 0, 2, 0, 1)
    slips = (slip(F, row, 0), slip(F, row, 1))
    given = {
        "office": F, "book": C, "row": row, "other": (0, 1, 2, 1), "lot": (0,), "desk": 1,
        "logs": ((0, 2, 0), (1, 2)), "work": 2, "place": 3, "thing": row, "slips": slips,
        "labels": (0, 0, 0, 0, 1), "dealer": first_free, "many": 3, "goal": 0, "pairs": ((0, 1), (1, 2)),
        "notes": (note(C, row, 0), note(C, row, 1)), "machine": M, "worker": leave_blank, "teller": tell_none,
        "length": 5, "number": 3, "counts": (1, 1), "goals": (0, 1), "held": note(C, row, 1),
        "journals": (((0, 1, 0), (0, 3, 2)), ((1, 1, 1), (0, 3, 2))),
    }
    own = {"meet": (F, 0, 2), "ahead": (F, row, 1, 3), "tops": (F, row, 0, 1), "newer": (F, row, 0, 1, 0),
           "newer_by": (F, slips[0], slips[1], 0), "within_by": (F, slips[0], 1, slips[1], 0),
           "Office": (2, ((0,), (0, 1))), "Book": (F, (0, 3), ((0, 1, 1), (1, 1, 0))),
           "same": (C, W), "parting_row": (C, W), "torn": (W,), "change_by": (C, (1,), (note(C, row, 1),)),
           "Machine": (F, M.many, M.moves, M.tells), "wrong_row": (C, M), "is_for": (C, M),
           "is_bar": (C, 0, (row, [(), (0,)])), "may_tell_by": (C, (1,), (note(C, row, 1),)),
           "least_with": (F, (0,), ((0, 2, 0),)), "may_from_logs": (C, (1,), ((2, 1),)),
           "is_cut": (F, row, (1, 1)), "cut_row": (F, row, (0, 1)), "are_goals": (C, C, (0, 1)),
           "turned": (C, C, (0, 1), note(C, row, 1)),
           "read_office": (office_text(F),), "read_book": (book_text(C),), "read_row": (F, "1,0,2")}
    found = []
    for file, names in INTERFACE.items():
        for name, words in names.items():
            arguments = own.get(name) or tuple(given[word] for word in words.split())
            if name not in LIVE:
                found.append((getattr(module(file), name), arguments))
    return found


class Interface(unittest.TestCase):
    def test_names_stand_in_their_files(self):
        for file, names in INTERFACE.items():
            for name, words in names.items():
                thing = getattr(module(file), name)
                self.assertEqual(thing.__module__, "latestword." + file)
                self.assertEqual(thing.__name__, name)
                function = thing.__init__ if inspect.isclass(thing) else thing
                arguments = [word for word in inspect.signature(function).parameters if word != "self"]
                self.assertEqual(" ".join(arguments), words)

    def test_methods_stand_in_their_class(self):
        for file, names in INTERFACE.items():
            for name in set(names) & set(METHODS):
                for method, words in METHODS[name].items():
                    function = vars(getattr(module(file), name))[method]
                    self.assertTrue(inspect.isfunction(function))
                    self.assertEqual(" ".join(inspect.signature(function).parameters), ("self " + words).strip())

    def test_attributes(self):
        self.assertEqual(vars(F), {"desks": 2, "works": ((0,), (1,), (0, 1))})
        self.assertEqual(vars(C), {"office": F, "telling": (0, 1), "steps": ((1, 0, 0), (0, 1, 1))})
        self.assertEqual((M.office, M.many), (F, (2, 3)))
        self.assertEqual([sorted(table) for table in M.moves[:2]], [[(0,), (1,)], [(0,), (1,), (2,)]])
        self.assertEqual(sorted(M.tells), [(one, other) for one in range(2) for other in range(3)])


class Calls(unittest.TestCase):
    def test_equal_calls_give_equal_answers(self):
        first = [function(*arguments) for function, arguments in calls()]
        for at, (function, arguments) in enumerate(reversed(calls())):
            self.assertEqual(function(*copy.deepcopy(arguments)), first[-1 - at])

    def test_arguments_stay_as_they_were(self):
        for function, arguments in calls():
            kept = copy.deepcopy(arguments)
            function(*arguments)
            self.assertEqual(arguments, kept)

    def test_lists_are_new(self):
        for function, arguments in calls():
            answer = function(*arguments)
            if isinstance(answer, (list, dict)):
                kept = copy.deepcopy(answer)
                answer.clear()
                self.assertEqual(function(*arguments), kept)

    def test_flags_are_flags(self):
        for function, arguments in calls():
            name = function.__name__
            if name.startswith(("is_", "are_")) or name in ("alike", "begins", "meet", "ahead", "within_by", "same"):
                self.assertIs(type(function(*arguments)), bool)

    def test_answers_have_no_odd_kinds_inside(self):
        for function, arguments in calls():
            self.kinds(function(*arguments))

    def kinds(self, thing):
        if isinstance(thing, (list, tuple)):
            self.assertIn(type(thing), (list, tuple))
            for part in thing:
                self.kinds(part)
        elif not isinstance(thing, (Office, Book, Machine)):
            self.assertIn(type(thing), (int, bool, str, type(None)))

    def test_wrong_arguments_stay_as_they_were(self):
        """Each argument of each call in turn is a list, a dict or deep; nothing is changed, no odd error raised."""
        for function, arguments in calls():
            for at in range(0 if inspect.isclass(function) else 1, len(arguments)):
                always_right = isinstance(arguments[at], (Office, Book, Machine)) and function.__name__ != "is_for"
                if callable(arguments[at]) or always_right or isinstance(arguments[at], Book):
                    continue
                for wrong in ([0, [1]], {0: [1]}, {"a": {0: 1}}, [[0, 1, 2]] * 3, nested(39, lambda x: [x])):
                    kept = copy.deepcopy(wrong)
                    changed = arguments[:at] + (wrong,) + arguments[at + 1:]
                    try:
                        self.assertIs(function(*changed), False)
                        self.assertIn(function.__name__, ("is_row", "is_for", "is_bar", "is_cut", "are_goals"))
                    except OfficeError:
                        pass
                    self.assertEqual(wrong, kept)

    def test_objects_keep_what_they_were_made_of(self):
        works = ((0,), (0, 1))
        office = Office(2, works)
        steps = ((0, 0), (1, 1))
        book = module("books").Book(office, (1, 2), steps)
        self.assertEqual((office.works, book.steps), (((0,), (0, 1)), ((0, 0), (1, 1))))
        self.assertEqual(module("books").told(book, (0, 1)), 1)

    def test_what_was_returned_may_be_passed_on(self):
        rows = [long_row(RING, 60, 1), long_row(RING, 60, 2)]
        shared = module("begins").common(RING, *rows)
        least = module("rows").least_row(RING, rows[0])
        self.assertIs(module("begins").begins(RING, shared, least), True)
        whole = module("begins").joint(F, (0,) * 60, (1,) * 60)
        for function, words in ((module("rows").layers, ()), (module("slips").labels, ()), (module("news").news, (1,))):
            function(F, whole, *words)
        self.assertEqual(module("books").stood(C, whole), 0)
        self.assertEqual(module("books").stood(W, whole), 1)

    def test_offices_and_books_take_each_other_apart(self):
        self.assertIs(F == C, False)
        self.assertIs(C != F, True)
        self.assertIs(blank_slip(F) == F, False)


if __name__ == "__main__":
    unittest.main()
