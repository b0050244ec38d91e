"""Points 7.1 and 7.2: strangers' machines, what they are, and whether they tell as a book does."""

import copy
import unittest
from itertools import product

from helper import (
    ALONE, APART, C, Case, F, IDLE, O, RING, SIX, STAR, W, all_notes_of, book_by, doubled, even_books, first_row,
    long_row, machine_by, odd_things, parts_by, rows_to, works_of
)
from latestword.books import Book, is_even, told
from latestword.errors import BadMachine, NoMatch, NoRow
from latestword.leasts import least_book, same
from latestword.machines import Machine, is_for, joined, notes_behind, told_there, used, wrong_row
from latestword.offices import Office

# Desk 0 tells how often it has done the work 0, but for two; works of both leave that.
TURN = {(0,): (1,), (1,): (0,)}
STAY = {(0,): (0,)}
BOTH = {(0, 0): (0, 0), (1, 0): (1, 0)}
FOR_C = (F, (2, 1), (TURN, STAY, BOTH), {(0, 0): 0, (1, 0): 1})
SHAPES = (
    (F, (2, 3)), (F, (1, 1)), (O, (2, 1, 2)), (RING, (2, 2, 1, 2)), (STAR, (1, 2, 2, 2)), (IDLE, (3, 2, 2)),
    (APART, (2, 2, 2)), (ALONE, (6,)),
)


def machines():
    return [machine_by(office, many, seed, 3) for office, many in SHAPES for seed in range(1, 5)]


def notes_in_words(parts, row):
    office, many, moves, tells = parts
    notes = [0] * office.desks
    for work in row:
        behind = moves[work][tuple(notes[desk] for desk in office.works[work])]
        for desk, own in zip(office.works[work], behind):
            notes[desk] = own
    return tuple(notes)


def parts_of(machine):
    return machine.office, machine.many, machine.moves, machine.tells


def changed(table, key, worth):
    return {**table, key: worth}


def less(table, key):
    return {own: table[own] for own in table if own != key}


class Making(Case):
    def bad(self, part, *parts):
        with self.assertRaises(BadMachine) as caught:
            Machine(*parts)
        self.assertEqual(caught.exception.part, part)
        self.assertIs(type(caught.exception), BadMachine)

    def test_attributes(self):
        machine = Machine(*FOR_C)
        self.assertEqual((machine.office, machine.many), FOR_C[:2])
        self.assertEqual((machine.moves, machine.tells), FOR_C[2:])
        self.assertIs(type(machine.moves), tuple)
        self.assertIs(type(machine.tells), dict)
        self.assertEqual([type(table) for table in machine.moves], [dict] * 3)

    def test_attributes_are_new_each_time(self):
        machine = Machine(*FOR_C)
        machine.tells.clear()
        machine.moves[0].clear()
        machine.moves[2][0, 0] = (1, 0)
        self.assertEqual((machine.moves, machine.tells), FOR_C[2:])
        self.assertIsNot(machine.tells, machine.tells)
        self.assertIsNot(machine.moves[0], machine.moves[0])
        self.assertEqual(told_there(machine, (0,)), 1)

    def test_copies_are_kept(self):
        office, many, moves, tells = copy.deepcopy(FOR_C)
        machine = Machine(office, many, moves, tells)
        tells.clear()
        moves[0][0,] = (0,)
        moves[2].clear()
        self.assertEqual((machine.moves, machine.tells), FOR_C[2:])
        self.assertEqual(told_there(machine, (0, 2)), 1)

    def test_arguments_stay_as_they_were(self):
        parts = copy.deepcopy(FOR_C)
        Machine(*parts)
        self.assertEqual(parts, FOR_C)

    def test_the_order_of_keys_means_nothing(self):
        other = dict(reversed(list(FOR_C[3].items())))
        self.assertEqual(Machine(*FOR_C[:3], other), Machine(*FOR_C))

    def test_as_many_as_can_be(self):
        for office, many in ((F, (6, 6)), (O, (6, 6, 5)), (O, (5, 6, 6)), (SIX, (1, 1, 1, 1, 1, 1)), (RING, (5, 5, 4, 2))):
            self.assertEqual(machine_by(office, many, 2).many, many)
        self.assertEqual(machine_by(RING, (5, 5, 4, 2), 1).many, (5, 5, 4, 2))

    def test_many(self):
        for office, many in (
            (F, (7, 1)), (F, (1, 7)), (F, (0, 1)), (F, (1, 0)), (F, (-1, -1)), (F, (2,)), (F, (2, 1, 1)), (F, ()),
            (O, (6, 6, 6)), (RING, (6, 6, 6, 1)), (RING, (3, 4, 4, 5)), (RING, (1, 6, 6, 6)), (SIX, (2, 2, 2, 3, 3, 3)),
            (SIX, (6,) * 6),
        ):
            if len(many) == office.desks and all(0 < number < 7 for number in many):
                self.bad("many", *parts_by(office, many, 2))
            self.bad("many", office, many, (), {})
        for many in ([2, 1], (2, True), (True, True), (2, None), (2, "1"), (2, (1,)), 2, None, "21", {2: 1}, (2, 10 ** 39)):
            self.bad("many", F, many, *FOR_C[2:])
            self.bad("many", F, many, None, None)

    def test_just_two_hundred(self):
        self.assertEqual(len(machine_by(RING, (5, 5, 4, 2), 2).tells), 200)
        self.bad("many", *parts_by(Office(3, ((0, 1, 2),)), (6, 6, 6), 2))
        self.bad("many", *parts_by(RING, (3, 3, 5, 5), 2))
        self.bad("many", *parts_by(RING, (1, 6, 6, 6), 2))
        for many in ((4, 5, 5, 2), (3, 3, 4, 5), (6, 6, 5, 1), (2, 4, 5, 5)):
            self.assertEqual(machine_by(RING, many, 2).many, many)

    def test_moves(self):
        for moves in (
            (TURN, STAY), (TURN, STAY, BOTH, BOTH), [TURN, STAY, BOTH], (), None, TURN, {0: TURN, 1: STAY, 2: BOTH},
            (STAY, STAY, BOTH), (TURN, TURN, BOTH), (TURN, STAY, TURN), (TURN, STAY, None), (TURN, STAY, ((0, 0), (1, 0))),
            (TURN, STAY, {}), ([((0,), (1,)), ((1,), (0,))], STAY, BOTH), "012",
            # A key more, a key less.
            (changed(TURN, (2,), (0,)), STAY, BOTH), (less(TURN, (1,)), STAY, BOTH), (TURN, {}, BOTH),
            (TURN, STAY, changed(BOTH, (0, 1), (0, 0))), (TURN, STAY, less(BOTH, (0, 0))),
            (changed(less(TURN, (1,)), (2,), (0,)), STAY, BOTH), (changed(less(TURN, (1,)), 1, (0,)), STAY, BOTH),
            (changed(less(TURN, (1,)), "1", (0,)), STAY, BOTH), (changed(less(TURN, (1,)), (-1,), (0,)), STAY, BOTH),
            (changed(less(TURN, (1,)), None, (0,)), STAY, BOTH), (changed(less(TURN, (1,)), (1, 0), (0,)), STAY, BOTH),
            (TURN, STAY, changed(less(BOTH, (1, 0)), (0, 1), (0, 0))), (changed(TURN, ((1,),), (0,)), STAY, BOTH),
        ):
            self.bad("moves", F, (2, 1), moves, FOR_C[3])
            self.bad("moves", F, (2, 1), moves, None)

    def test_what_moves_lead_to(self):
        for worth in (
            (2,), (-1,), (True,), (False,), [0], (0, 0), (), 0, None, "0", (None,), ("0",), ((0,),), {0: 0}, (10 ** 39,), F,
        ):
            self.bad("moves", F, (2, 1), (changed(TURN, (0,), worth), STAY, BOTH), FOR_C[3])
            self.bad("moves", F, (2, 1), (changed(TURN, (1,), worth), STAY, BOTH), FOR_C[3])
        for worth in ((1,), (0, 1), (2, 0), (0, 0, 0), [0, 0], (0, True), (0, None), (False, 0), ((0, 0),), 0, (0, -1)):
            self.bad("moves", F, (2, 1), (TURN, STAY, changed(BOTH, (0, 0), worth)), FOR_C[3])

    def test_notes_of_the_desks_of_the_work(self):
        office = Office(3, ((2,), (0, 2)))
        tells = {notes: 0 for notes in product(range(1), range(2), range(3))}
        own = {(0,): (2,), (1,): (0,), (2,): (1,)}
        both = {(0, k): (0, 2 - k) for k in range(3)}
        self.assertEqual(notes_behind(Machine(office, (1, 2, 3), (own, both), tells), (0, 1, 0)), (0, 0, 2))
        self.bad("moves", office, (1, 2, 3), (own, {(0, k): (0, k + 1) for k in range(3)}), tells)
        self.bad("moves", office, (1, 2, 3), (own, {(0, k): (k, 0) for k in range(3)}), tells)
        self.bad("moves", office, (3, 2, 1), (own, both), tells)

    def test_tells(self):
        for tells in (
            {}, {(0, 0): 0}, {(0, 0): 0, (1, 0): 1, (0, 1): 0}, {(0, 0): 0, (1, 0): 10}, {(0, 0): -1, (1, 0): 0},
            {(0, 0): 0, (1, 0): True}, {(0, 0): False, (1, 0): 0}, {(0, 0): 0, (1, 0): None}, {(0, 0): 0, (1, 0): "0"},
            {(0, 0): 0, (1, 0): (0,)}, {(0, 0): 0, (0, 1): 1}, {(0, 0): 0, 1: 1}, {0: 0, 1: 1}, {(0,): 0, (1,): 1},
            {(0, 0): 0, (1, 0): [0]}, {(0, 0): 0, (1, 0): 10 ** 39}, ((0, 0), (1, 0)), [((0, 0), 0), ((1, 0), 1)],
            None, 0, "01", (0, 1), {(0, 0): 0, (1, 0): F}, {(0, 0): 0, (1, 0): 1, None: 0}, {(0, 0): 0, "10": 1},
        ):
            self.bad("tells", *FOR_C[:3], tells)
        for number in range(10):
            self.assertEqual(Machine(*FOR_C[:3], {(0, 0): number, (1, 0): 0}).tells[0, 0], number)

    def test_every_kind(self):
        for thing in odd_things():
            if not (type(thing) is tuple and len(thing) == 2 and all(type(part) is int and part > 0 for part in thing)):
                self.bad("many", F, thing, thing, thing)
                self.bad("many", F, thing, *FOR_C[2:])
            self.bad("moves", F, (2, 1), thing, thing)
            self.bad("moves", F, (2, 1), (TURN, STAY, thing), thing)
            self.bad("moves", F, (2, 1), (TURN, thing, BOTH), FOR_C[3])
            self.bad("tells", *FOR_C[:3], thing)
            if not (type(thing) is int and 0 <= thing < 10):
                self.bad("tells", *FOR_C[:3], {(0, 0): 0, (1, 0): thing})
            if not (type(thing) is tuple and len(thing) == 1 and type(thing[0]) is int and thing[0] in (0, 1)):
                self.bad("moves", F, (2, 1), ({(0,): (0,), (1,): thing}, STAY, BOTH), FOR_C[3])
            try:
                hash(thing)
            except TypeError:
                continue
            if thing != (0, 0) and thing != (1, 0):
                self.bad("tells", *FOR_C[:3], {(0, 0): 0, thing: 1})
                self.bad("tells", *FOR_C[:3], {(0, 0): 0, (1, 0): 0, thing: 1})

    def test_several_wrong(self):
        self.bad("many", F, (2, 0), (TURN,), {})
        self.bad("moves", F, (2, 1), (TURN,), {})
        self.bad("tells", F, (2, 1), (TURN, STAY, BOTH), {})


class Equality(Case):
    def test_equal_just_if_all_four_are(self):
        machine = Machine(*FOR_C)
        other = Machine(Office(2, ((0,), (1,), (0, 1))), *copy.deepcopy(FOR_C[1:]))
        self.assertIs(machine == other, True)
        self.assertIs(machine != other, False)
        for parts in (
            (F, (2, 1), (TURN, STAY, BOTH), {(0, 0): 0, (1, 0): 2}),
            (F, (2, 1), ({(0,): (1,), (1,): (1,)}, STAY, BOTH), FOR_C[3]),
            (F, (1, 2), (STAY, TURN, {(0, 0): (0, 0), (0, 1): (0, 1)}), {(0, 0): 0, (0, 1): 1}),
            (F, (1, 1), (STAY, STAY, {(0, 0): (0, 0)}), {(0, 0): 0}),
            (Office(2, ((0,), (1,), (0,))), (2, 1), (TURN, STAY, TURN), FOR_C[3]),
        ):
            self.assertIs(machine == Machine(*parts), False)
            self.assertIs(machine != Machine(*parts), True)

    def test_unlike_offices_alone(self):
        one = Machine(Office(2, ((0,),)), (2, 2), (TURN,), {notes: 0 for notes in all_notes_of((2, 2))})
        other = Machine(Office(2, ((1,),)), (2, 2), (TURN,), {notes: 0 for notes in all_notes_of((2, 2))})
        self.assertIs(one == other, False)

    def test_unlike_other_kinds(self):
        class Alike:
            office, many, moves, tells = FOR_C

        machine = Machine(*FOR_C)
        for thing in odd_things() + [Alike(), FOR_C, joined(machine), C, F]:
            self.assertIs(machine == thing, False)
            self.assertIs(machine != thing, True)
            self.assertIs(thing == machine, False)


class Behind(Case):
    def test_some(self):
        machine = Machine(*FOR_C)
        self.assertEqual(notes_behind(machine, ()), (0, 0))
        self.assertEqual(notes_behind(machine, (0, 2, 1)), (1, 0))
        self.assertEqual(told_there(machine, (0, 2, 1)), 1)
        self.assertEqual(told_there(machine, ()), 0)

    def test_by_words(self):
        for machine in machines():
            parts = parts_of(machine)
            for row in rows_to(machine.office, 3) + [long_row(machine.office, 60, 3)]:
                notes = notes_in_words(parts, row)
                self.assertEqual(notes_behind(machine, row), notes)
                self.assertEqual(told_there(machine, row), parts[3][notes])

    def test_no_row(self):
        machine = Machine(*FOR_C)
        for thing in odd_things() + [(3,), (0, True), [0], (0, -1)]:
            if not (isinstance(thing, tuple) and all(type(part) is int and 0 <= part < 3 for part in thing)):
                self.raises(NoRow, notes_behind, machine, thing)
                self.raises(NoRow, told_there, machine, thing)


class Joined(Case):
    def test_some(self):
        book = joined(Machine(*FOR_C))
        self.assertEqual(book, C)
        self.assertIs(type(book), Book)

    def test_one_note_each(self):
        machine = Machine(F, (1, 1), (STAY, STAY, {(0, 0): (0, 0)}), {(0, 0): 7})
        self.assertEqual(joined(machine), Book(F, (7,), ((0, 0, 0),)))
        self.assertEqual(used(machine), ((0,), (0,)))

    def test_by_words(self):
        for machine in machines():
            parts = parts_of(machine)
            found = []
            book = joined(machine)
            edge = [()]
            while edge:
                beyond = []
                for row in edge:
                    notes = notes_in_words(parts, row)
                    if notes not in found:
                        found.append(notes)
                        beyond += [row + (work,) for work in works_of(machine.office)]
                edge = beyond
            self.assertEqual(book.telling, tuple(parts[3][notes] for notes in found))
            for notes, step in zip(found, book.steps):
                for work, there in enumerate(step):
                    desks = machine.office.works[work]
                    behind = dict(zip(desks, parts[2][work][tuple(notes[desk] for desk in desks)]))
                    self.assertEqual(found[there], tuple(behind.get(desk, own) for desk, own in enumerate(notes)))
            self.assertEqual(used(machine), tuple(tuple(sorted(set(own))) for own in zip(*found)))
            self.assertIs(is_even(book), True)

    def test_equal_standings_are_not_made_one(self):
        parts = FOR_C[:3] + ({(0, 0): 4, (1, 0): 4},)
        self.assertEqual(joined(Machine(*parts)).telling, (4, 4))
        self.assertEqual(used(Machine(*parts)), ((0, 1), (0,)))

    def test_up_to_two_hundred_standings(self):
        # Desk 3 goes round by itself, and so on: all notes together can come.
        office = Office(4, ((0,), (1,), (2,), (3,)))
        many = (5, 5, 4, 2)
        moves = tuple({(k,): ((k + 1) % number,) for k in range(number)} for number in many)
        machine = Machine(office, many, moves, {notes: sum(notes) % 10 for notes in all_notes_of(many)})
        book = joined(machine)
        self.assertEqual(len(book.steps), 200)
        self.assertEqual(used(machine), tuple(tuple(range(number)) for number in many))
        self.assertEqual(book.steps[0], (1, 2, 3, 4))
        for row in (long_row(office, 60, 1), long_row(office, 60, 2)):
            self.assertEqual(told(book, row), told_there(machine, row))
        self.assertIs(wrong_row(book, machine), None)
        self.assertIs(is_for(book, machine), True)
        self.assertIs(is_for(least_book(book), machine), True)

    def test_notes_that_cannot_come_are_left_out(self):
        # The note 1 of desk 0 comes by no work, and that of desk 1 only by works from there.
        moves = ({(0,): (2,), (1,): (2,), (2,): (0,)}, STAY, {(k, 0): (k, 0) for k in range(3)})
        machine = Machine(F, (3, 1), moves, {(k, 0): k for k in range(3)})
        self.assertEqual(used(machine), ((0, 2), (0,)))
        self.assertEqual(joined(machine), Book(F, (0, 2), ((1, 0, 0), (0, 1, 1))))
        both = {(0, 0): (0, 0), (0, 1): (1, 1), (1, 0): (1, 1), (1, 1): (1, 1)}
        tells = {notes: 0 for notes in all_notes_of((2, 2))}
        machine = Machine(F, (2, 2), ({(0,): (0,), (1,): (0,)}, {(0,): (0,), (1,): (0,)}, both), tells)
        self.assertEqual(used(machine), ((0,), (0,)))
        self.assertEqual(len(joined(machine).steps), 1)

class Wrong(Case):
    def test_some(self):
        machine = Machine(*FOR_C)
        self.assertIs(wrong_row(C, machine), None)
        self.assertEqual(wrong_row(W, machine), (1,))
        self.assertEqual(wrong_row(Book(F, (1, 0), C.steps), machine), ())

    def test_by_words(self):
        found = {}
        for machine in machines():
            for seed in range(1, 5):
                book = book_by(machine.office, 1 + seed, seed)
                row = first_row(book.office, 4, lambda row: told(book, row) != told_there(machine, row))
                if row is not None:
                    self.assertEqual(wrong_row(book, machine), row)
                    self.assertIs(is_for(book, machine), False)
                    found[len(row)] = True
        self.assertGreater(len(found), 2)

    def test_machines_for_their_own_books(self):
        for machine in machines():
            book = joined(machine)
            for other in (book, least_book(book), doubled(least_book(book), 4) if len(least_book(book).steps) < 7 else book):
                self.assertIs(wrong_row(other, machine), None)
                self.assertIs(is_for(other, machine), True)

    def test_wrong_far_behind(self):
        moves = ({(k,): ((k + 1) % 6,) for k in range(6)},)
        machine = Machine(ALONE, (6,), moves, {(k,): k // 5 for k in range(6)})
        self.assertEqual(wrong_row(Book(ALONE, (0,), ((0,),)), machine), (0,) * 5)
        twelve = Book(ALONE, (0, 0, 0, 0, 0, 1) * 2, tuple(((k + 1) % 12,) for k in range(12)))
        self.assertIs(wrong_row(twelve, machine), None)
        other = Book(ALONE, twelve.telling[:11] + (2,), twelve.steps)
        self.assertEqual(wrong_row(other, machine), (0,) * 11)
        self.assertTrue(same(joined(machine), twelve))

    def test_no_match(self):
        machine = Machine(*FOR_C)
        for office in (O, ALONE, Office(3, F.works), Office(2, ((0,), (1,), (1,)))):
            self.raises(NoMatch, wrong_row, Book(office, (0,), ((0,) * len(office.works),)), machine)


class IsFor(Case):
    def test_things_of_any_kind(self):
        for thing in odd_things() + [FOR_C, C, joined(Machine(*FOR_C)), Office, Machine]:
            self.assertIs(is_for(C, thing), False)
            self.assertIs(is_for(W, thing), False)

    def test_unlike_offices(self):
        for machine in (machine_by(O, (1, 1, 1), 2), machine_by(ALONE, (2,), 2)):
            self.assertIs(is_for(C, machine), False)
        other = Office(3, F.works)
        flat = Machine(other, (1, 1, 1), (STAY, STAY, {(0, 0): (0, 0)}), {(0, 0, 0): 0})
        self.assertIs(is_for(Book(F, (0,), ((0, 0, 0),)), flat), False)
        self.assertIs(is_for(Book(other, (0,), ((0, 0, 0),)), flat), True)

    def test_none_is_for_a_book_that_cannot_be_shared_out(self):
        for machine in machines():
            if machine.office == F:
                self.assertIs(is_for(W, machine), False)
        self.assertTrue(all(is_even(book) for book in even_books()))


if __name__ == "__main__":
    unittest.main()
