"""Audits: whether journals can be those of the desks of a line, and of which row."""

from latestword.checks import is_integer
from latestword.errors import Faulty, NoJournals
from latestword.logs import from_logs
from latestword.offices import own_works
from latestword.rows import done_by_logs


def is_entry(thing):
    return isinstance(thing, tuple) and len(thing) == 3 and all([is_integer(part) for part in thing])


def are_journals(office, thing):
    if not isinstance(thing, tuple) or len(thing) != office.desks:
        return False
    return all([isinstance(part, tuple) and all([is_entry(entry) for entry in part]) for part in thing])


def check_journals(office, journals):
    if not are_journals(office, journals):
        raise NoJournals()


def leads_alone(office, leader):
    """Whether a desk leads no works but such that it does alone."""
    return all([desks[0] != leader or desks == (leader,) for desks in office.works])


def can_stand(office, desk, entry, last):
    """Whether an entry can stand in the journal of a desk, behind the last turn of its leader there."""
    leader, turn, work = entry
    if work not in own_works(office, desk) or office.works[work][0] != leader:
        return False
    # A work done alone is done as soon as it is called: no turn can end with nothing.
    return turn == last + 1 if leads_alone(office, leader) else turn > last


def first_out_of_place(office, journals):
    """The pair (desk, place) of the first entry that cannot stand where it does, or None."""
    for desk, journal in enumerate(journals):
        lasts = {}
        for place, entry in enumerate(journal):
            leader, turn, _ = entry
            if not can_stand(office, desk, entry, lasts.get(leader, 0)):
                return desk, place
            lasts[leader] = turn
    return None


def first_lacking(office, journals):
    """The triple (leader, turn, desk) of the first entry that a desk lacks, or None."""
    works = {}
    for journal in reversed(journals):
        for leader, turn, work in journal:
            works[leader, turn] = work
    for leader, turn in sorted(works):
        work = works[leader, turn]
        for desk in office.works[work]:
            if (leader, turn, work) not in journals[desk]:
                return leader, turn, desk
    return None


def works_of(journals):
    """The logs that journals tell of."""
    return tuple([tuple([work for _, _, work in journal]) for journal in journals])


def audited(office, journals):
    check_journals(office, journals)
    out = first_out_of_place(office, journals)
    if out is not None:
        return ("work",) + out
    lacking = first_lacking(office, journals)
    if lacking is not None:
        return ("lacking",) + lacking
    logs = works_of(journals)
    _, counts = done_by_logs(office, logs)
    if counts != tuple([len(own) for own in logs]):
        return "stuck", counts
    return None


def row_of(office, journals):
    if audited(office, journals) is not None:
        raise Faulty()
    return from_logs(office, works_of(journals))
