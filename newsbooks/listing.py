"""All ranks of some worlds, listed and counted."""

from newsbooks.checks import check_worlds
from newsbooks.errors import TooMany
from newsbooks.firsts import MOST_LISTED, count_keeping, keeping_ranks
from newsbooks.ranks import Rank


def all_ranks(worlds):
    """Yield all ranks, by their first cells in lot order, then by their second cells, and so on."""
    # Every rank keeps the empty list of comparisons.
    for rank in keeping_ranks(worlds, ()):
        yield rank


def count_ranks(worlds):
    """Return the number of ranks."""
    return count_keeping(worlds, ())


def strict_orders(worlds):
    """Return the list of all strict orders, ascending."""
    orders = [()]
    for _ in range(worlds):
        orders = [order + (world,) for order in orders for world in range(worlds) if world not in order]
    return orders


def strict_ranks(worlds):
    """Return all strict ranks, by their strict orders."""
    check_worlds(worlds)
    if worlds > MOST_LISTED:
        raise TooMany(MOST_LISTED)
    return tuple([Rank.strict(order) for order in strict_orders(worlds)])
