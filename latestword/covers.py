"""Offices in which just the works of given pairs meet, with as few desks as can be."""

from latestword.checks import is_below, is_lot
from latestword.errors import NoMany, NoPairs
from latestword.lots import all_lots, pairs_of
from latestword.offices import Office

MOST_COVERED = 5


def are_pairs(many, thing):
    """Whether a thing is an ascending tuple of unlike pairs of ascending works."""
    if not isinstance(thing, tuple) or not all([is_lot(part, many) and len(part) == 2 for part in thing]):
        return False
    return all([low < high for low, high in zip(thing, thing[1:])])


def teams_of(many, pairs):
    """All lots of works each two of which may meet: what one desk can do."""
    return [lot for lot in all_lots(many) if all([pair in pairs for pair in pairs_of(lot)])]


def is_within_team(lot, team):
    return all([work in team for work in lot])


def covered(needed, teams, most):
    """A list of at most so many teams such that each needed lot is within one, or None."""
    if len(needed) == 0:
        return []
    if most == 0:
        return None
    for team in teams:
        if is_within_team(needed[0], team):
            left = [lot for lot in needed if not is_within_team(lot, team)]
            rest = covered(left, teams, most - 1)
            if rest is not None:
                return [team] + rest
    return None


def fewest_teams(many, pairs):
    """A list of as few teams as can be, a desk for each, such that works meet as told."""
    if not is_below(many, MOST_COVERED + 1) or many == 0:
        raise NoMany()
    if not are_pairs(many, pairs):
        raise NoPairs()
    # A work that meets no other one needs a desk, too.
    needed = list(pairs) + [(work,) for work in range(many)]
    teams = teams_of(many, pairs)
    most = 1
    found = covered(needed, teams, most)
    while found is None:
        most += 1
        found = covered(needed, teams, most)
    return found


def office_for(many, pairs):
    teams = fewest_teams(many, pairs)
    works = [tuple([desk for desk, team in enumerate(teams) if work in team]) for work in range(many)]
    return Office(len(teams), tuple(works))


def fewest_desks(many, pairs):
    return len(fewest_teams(many, pairs))
