"""Ranks behind give-up tables, and the give-up tables that lie over a table of answers."""

from newsbooks.bridges import put_from
from newsbooks.checks import check_same_worlds, check_worlds
from newsbooks.givewishes import has_give
from newsbooks.givings import Giving
from newsbooks.lots import in_lot_order, lot_of, rest_of
from newsbooks.ranks import Rank
from newsbooks.relations import rank_behind
from newsbooks.tables import MOST_TABLED


def rank_of_sinks(giving):
    """Return the rank whose sink table this is, or None."""
    # In a sink table, giving up all worlds but x leaves just those that are not behind x.
    singles = [giving.kept(rest_of((world,), giving.worlds)) for world in range(giving.worlds)]
    rank = Rank.of_levels([len(lot) for lot in singles])
    return rank if Giving.sink_of(rank) == giving else None


def rank_of_levels(giving):
    """Return the rank whose level table this is, or None."""
    table = put_from(giving)
    rank = None if table is None else rank_behind(table)
    return rank if rank is not None and Giving.level_of(rank) == giving else None


def kept_chain(giving):
    """Return the unlike lots that are held when something is given up, in lot order."""
    return in_lot_order([answer for _, answer in giving.pairs])


def count_between(worlds, held):
    """Return how many give-up tables lie over a tied table that holds this lot."""
    check_worlds(worlds, MOST_TABLED)
    outside = worlds - len(lot_of(held, worlds, empty=False))
    free = outside * (1 << outside) // 2 - outside
    return 1 << free


def is_between(giving, table):
    """Return whether the give-up table lies over the table."""
    check_same_worlds(giving, table)
    return has_give(giving, "hold") and has_give(giving, "stand") and put_from(giving) == table
