"""Families of lots, their common parts and closures."""

from newsbooks.checks import check_worlds, is_row
from newsbooks.errors import BadFamily
from newsbooks.lots import common, every, in_lot_order, is_book, lot_of, lots_in_order, plus, rest_of

MOST_LOTS = 8


def family_of(family, worlds, most=MOST_LOTS):
    """Return the family as a tuple of ascending lots, in the order handed in."""
    check_worlds(worlds)
    if not is_row(family) or len(family) > most:
        raise BadFamily(-1)
    for place, lot in enumerate(family):
        if not is_book(lot, worlds):
            raise BadFamily(place)
    return tuple([tuple(sorted(lot)) for lot in family])


def common_parts(family, worlds):
    """Return the common parts of the family, in lot order."""
    found = (every(worlds),)
    for lot in family_of(family, worlds):
        parts = [common(lot, part) for part in found]
        found = in_lot_order(list(found) + [part for part in parts if part])
    return found


def union_closed(family, worlds):
    """Return the least union-closed family that has these lots, in lot order."""
    found = ()
    for lot in family_of(family, worlds):
        found = in_lot_order(list(found) + [lot] + [plus(lot, part) for part in found])
    return found


def contrary_closed(family, worlds):
    """Return the least family that has these lots and with each lot but W its rest, in lot order."""
    lots = family_of(family, worlds)
    rests = [rest_of(lot, worlds) for lot in lots]
    return in_lot_order(list(lots) + [rest for rest in rests if rest])


def is_union_closed(family, worlds):
    """Return whether the union of each two lots of the family is one of them."""
    lots = family_of(family, worlds)
    return all([plus(one, other) in lots for one in lots for other in lots])


def is_part_closed(family, worlds):
    """Return whether the common part of each two lots is empty or one of them."""
    lots = family_of(family, worlds)
    parts = [common(one, other) for one in lots for other in lots]
    return all([part in lots for part in parts if part])


def part_of(lots, places, worlds):
    """Return the common part of the lots at these places, W for none."""
    part = every(worlds)
    for place in places:
        part = common(part, lots[place])
    return part


def fewest_parts(family, worlds, lot):
    """Return the least places of the family whose common part is the lot, or None."""
    lots = family_of(family, worlds)
    goal = lot_of(lot, worlds, empty=False)
    for places in lots_in_order(len(lots)):
        if part_of(lots, places, worlds) == goal:
            return places
    return None
