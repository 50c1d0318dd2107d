"""Stretches behind a table."""

from newsbooks.lots import inside
from newsbooks.relations import ahead_of
from newsbooks.wishes import is_kind


def stretches_behind(table):
    """Return the least starts and ends of stretches whose table this is, or None."""
    if not is_kind(table, "stretches"):
        return None
    ahead = ahead_of(table)
    above = [tuple([x for x, y in ahead if y == below]) for below in range(table.worlds)]
    starts = [len(set([lot for lot in above if inside(lot, mine) and lot != mine])) for mine in above]
    ends = []
    for world in range(table.worlds):
        later = [starts[y] for x, y in ahead if x == world]
        ends.append(min(later) - 1 if later else max(starts))
    return (tuple(starts), tuple(ends))
