"""Relations and ranks behind a table."""

from newsbooks.ranks import Rank
from newsbooks.tables import Table
from newsbooks.wishes import is_kind


def ahead_of(table):
    """Return all pairs (x, y) with x ahead of y in the table, ascending."""
    pairs = [(x, y) for x in range(table.worlds) for y in range(table.worlds) if x != y]
    return tuple([(x, y) for x, y in pairs if table.answer((x, y)) == (x,)])


def relation_behind(table):
    """Return the only relation whose table this is, or None."""
    return ahead_of(table) if is_kind(table, "ringless") else None


def rank_behind(table):
    """Return the rank whose table this is, or None."""
    cells = []
    rest = table.pairs[-1][0]
    while rest:
        cell = table.answer(rest)
        cells.append(cell)
        rest = tuple([world for world in rest if world not in cell])
    rank = Rank(cells)
    return rank if Table.of_rank(rank) == table else None


def strict_behind(table):
    """Return the strict rank whose table this is, or None."""
    rank = rank_behind(table)
    return None if rank is None or len(rank.cells) < rank.worlds else rank


def is_going_on(pairs):
    """Return whether with (x, y) and (y, z) also (x, z) is among the pairs."""
    told = [(x, y) for x, y in pairs]
    return all([(x, z) in told for x, y in told for second, z in told if second == y])
