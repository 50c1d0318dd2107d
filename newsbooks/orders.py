"""Strict orders that fit a table, and the lots that are torn where none does."""

from newsbooks.checks import check_order, is_integer
from newsbooks.errors import BadNumber
from newsbooks.lots import lot_of
from newsbooks.masks import lot_in, mask_of
from newsbooks.tables import Table, answer_masks


def lost_masks(table):
    """Return the list that has at the mask of each lot the mask of its lost worlds.

    A world of a lot is lost in it if some lot inside it has the world, but not in its answer.
    """
    answers = answer_masks(table)
    lost = []
    for whole, answer in enumerate(answers):
        gone = whole & ~answer
        for world in range(table.worlds):
            if whole >> world & 1:
                gone = gone | lost[whole - (1 << world)]
        lost.append(gone)
    return lost


def fits_table(order, table):
    """Return whether the first world of each lot in the strict order is in its answer."""
    check_order(order, table.worlds)
    lost = lost_masks(table)
    return not any([lost[mask_of(order[first:])] >> world & 1 for first, world in enumerate(order)])


def orders_behind(table):
    """Return all strict orders that fit, ascending."""
    lost = lost_masks(table)
    full = len(lost) - 1
    orders = [()]
    for _ in range(table.worlds):
        rests = [(order, full - mask_of(order)) for order in orders]
        orders = [order + (world,) for order, rest in rests for world in lot_in(rest & ~lost[rest])]
    return tuple(orders)


def order_for(table, lot, world):
    """Return a strict order that fits and in which the world is the lot's first one, or None."""
    asked = lot_of(lot, table.worlds, empty=False)
    if not is_integer(world) or world not in asked:
        raise BadNumber("world")
    lost = lost_masks(table)
    order = []
    rest = len(lost) - 1
    while rest:
        sound = lot_in(rest & ~lost[rest])
        # What is not lost in a lot is not lost in lesser ones, so an early choice never shuts out a later one.
        able = [first for first in sound if first == world or world in order or first not in asked]
        if not able:
            return None
        order.append(able[0])
        rest = rest - (1 << able[0])
    return tuple(order)


def torn_lot(table):
    """Return the greatest torn lot, or None."""
    lost = lost_masks(table)
    rest = len(lost) - 1
    while rest != lost[rest]:
        rest = lost[rest]
    return lot_in(rest) if rest else None


def is_torn(table, lot):
    """Return whether the lot is torn."""
    mask = mask_of(lot_of(lot, table.worlds, empty=False))
    return lost_masks(table)[mask] == mask


def greatest_inside(table):
    """Return the table of all strict orders that fit, or None."""
    orders = orders_behind(table)
    return Table.of_orders(orders) if orders else None
