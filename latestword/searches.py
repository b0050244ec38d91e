"""Searches for rows: what comes from a start by works, and by which row at the least.

A function called beyond is given something that came, and tells the list of the pairs
(work, what comes of it by this work).
"""


def longer_rows(layer, found, beyond):
    """What comes of a layer by one work more and was not found yet, each with its least row."""
    longer = {}
    for here, row in layer.items():
        for work, there in beyond(here):
            if there not in found:
                behind = row + (work,)
                longer[there] = min(behind, longer.get(there, behind))
    return longer


def rows_coming(start, beyond):
    """All that comes from a start, each with the least of the shortest rows that lead to it.

    Where at most one thing comes by each work, and works ascend, the keys stand in the
    order of their rows, shorter ones ahead.
    """
    found = {}
    layer = {start: ()}
    while len(layer) > 0:
        for here, row in layer.items():
            found[here] = row
        layer = longer_rows(layer, found, beyond)
    return found


def least_found(start, beyond, is_wanted):
    """The least of the shortest rows that lead from a start to what is wanted, or None."""
    found = {}
    layer = {start: ()}
    while len(layer) > 0:
        wanted = [row for here, row in layer.items() if is_wanted(here)]
        if len(wanted) > 0:
            return min(wanted)
        for here in layer:
            found[here] = True
        layer = longer_rows(layer, found, beyond)
    return None
