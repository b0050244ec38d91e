"""Rows that begin other ones: what is common to two rows, and what joins them."""

from latestword.checks import check_row
from latestword.rows import all_logs, done_by_logs


def both_logs(office, row, other):
    """For each desk the pair of its logs in two rows."""
    check_row(office, row)
    check_row(office, other)
    return list(zip(all_logs(office, row), all_logs(office, other)))


def is_beginning(own, longer):
    return longer[:len(own)] == own


def begins(office, row, other):
    # A row begins another one just if each of its logs does: an event that one desk
    # still lacks is lacking at all desks of its work.
    return all([is_beginning(own, longer) for own, longer in both_logs(office, row, other)])


def gone_on(office, row, other):
    if not begins(office, row, other):
        return None
    rests = [longer[len(own):] for own, longer in both_logs(office, row, other)]
    rest, _ = done_by_logs(office, rests)
    return rest


def shared(own, longer):
    """The longest tuple that begins both."""
    many = 0
    while many < min(len(own), len(longer)) and own[many] == longer[many]:
        many += 1
    return own[:many]


def common(office, row, other):
    logs = [shared(own, longer) for own, longer in both_logs(office, row, other)]
    least, _ = done_by_logs(office, logs)
    return least


def go_together(own, other):
    """Whether one of two tuples begins the other."""
    return is_beginning(own, other) or is_beginning(other, own)


def joint(office, row, other):
    pairs = both_logs(office, row, other)
    # Where, at each desk, one log goes on from the other, the longer ones are always
    # logs of a row: each event of theirs is in one of the two rows, with all its desks.
    if not all([go_together(own, longer) for own, longer in pairs]):
        return None
    least, _ = done_by_logs(office, [max(pair, key=len) for pair in pairs])
    return least
