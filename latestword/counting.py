"""Rows counted up to exchange: how many there are, and which one has which number."""

from latestword.books import check_even
from latestword.checks import check_row, is_below
from latestword.errors import NoLength, NoNumber
from latestword.notes import change_along
from latestword.offices import works_meet
from latestword.rows import least_row
from latestword.searches import rows_coming

MOST_LENGTH = 60
MOST_TOLD = 9


def check_length(length):
    if not is_below(length, MOST_LENGTH + 1):
        raise NoLength()


def lots_apart(office):
    """The list of all lots of works each two of which are apart."""
    found = [()]
    for work in range(len(office.works)):
        found = found + [
            lot + (work,) for lot in found
            if not any([works_meet(office, work, other) for other in lot])
        ]
    return found


def apart_lots(office):
    sizes = [len(lot) for lot in lots_apart(office)]
    return tuple([sizes.count(size) for size in range(max(sizes) + 1)])


def many_of_length(office, length):
    """As many_rows, of any length, by the eighth fact."""
    lots = apart_lots(office)
    many = [1]
    for reached in range(1, length + 1):
        total = 0
        sign = 1
        for size in range(1, min(len(lots), reached + 1)):
            total += sign * lots[size] * many[reached - size]
            sign = -sign
        many.append(total)
    return many[length]


def many_rows(office, length):
    check_length(length)
    return many_of_length(office, length)


def barred_behind(office, barred, work):
    """The lot of the works that make no least row behind a least row and a work put behind it.

    barred are those that make none behind the least row alone.
    """
    return tuple([
        other for other in range(len(office.works))
        if not works_meet(office, work, other) and (other < work or other in barred)
    ])


def steps_of_least(office):
    """For each lot of works that can be barred, the list of the pairs (work, barred behind) of the others."""
    def beyond(barred):
        return [
            (work, barred_behind(office, barred, work))
            for work in range(len(office.works)) if work not in barred
        ]

    return {barred: beyond(barred) for barred in rows_coming((), beyond)}


def ways_on(pairs, ways):
    """How many ways go on behind all the works of some pairs (work, barred behind)."""
    return sum([ways[barred] for _, barred in pairs])


def many_beyond(steps, length):
    """For each length up to one a dict that tells, for each lot barred, how many least rows go on so far."""
    many = [{barred: 1 for barred in steps}]
    while len(many) <= length:
        many.append({barred: ways_on(pairs, many[-1]) for barred, pairs in steps.items()})
    return many


def row_at(office, length, number):
    check_length(length)
    if not is_below(number, many_of_length(office, length)):
        raise NoNumber()
    steps = steps_of_least(office)
    many = many_beyond(steps, length)
    row = ()
    barred = ()
    left = number
    while len(row) < length:
        ways = many[length - len(row) - 1]
        at = 0
        while left >= ways[steps[barred][at][1]]:
            left -= ways[steps[barred][at][1]]
            at += 1
        work, barred = steps[barred][at]
        row = row + (work,)
    return row


def row_number(office, row):
    check_row(office, row)
    steps = steps_of_least(office)
    many = many_beyond(steps, len(row))
    number = 0
    barred = ()
    for place, own in enumerate(least_row(office, row)):
        ways = many[len(row) - place - 1]
        number += ways_on([pair for pair in steps[barred] if pair[0] < own], ways)
        barred = barred_behind(office, barred, own)
    return number


def changes_apart(book):
    """The list of the pairs (size, change) of all lots of works apart, but for the empty one."""
    return [(len(lot), change_along(book, lot)) for lot in lots_apart(book.office) if len(lot) > 0]


def many_standing(book, length):
    """For each standing of an even book how many rows of a length lead to it, alike ones counted once."""
    # The eighth fact holds of the rows that lead to each standing, too: a lot of works
    # apart is taken off the end of a row, and changes the standings by its steps.
    changes = changes_apart(book)
    many = [[1] + [0] * (len(book.steps) - 1)]
    for reached in range(1, length + 1):
        total = [0] * len(book.steps)
        for size, change in changes:
            if size <= reached:
                sign = 1 if size % 2 == 1 else -1
                for standing, ways in enumerate(many[reached - size]):
                    total[change[standing]] += sign * ways
        many.append(total)
    return many[length]


def many_told(book, length):
    check_even(book)
    check_length(length)
    found = [0] * (MOST_TOLD + 1)
    for number, ways in zip(book.telling, many_standing(book, length)):
        found[number] += ways
    return tuple(found)
