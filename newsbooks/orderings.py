"""Bases gone through in an order, and the ranks of bases."""

from newsbooks.acts import act_of
from newsbooks.bases import base_of, base_with, places_in
from newsbooks.errors import BadOrder, TooMany
from newsbooks.families import part_of
from newsbooks.leadrows import act_row
from newsbooks.lots import common, every, in_lot_order, lot_of, meets
from newsbooks.rests import rests_for

MOST_ORDERED_BASE = 6


def taken_from(base, order, lot):
    """Return what is left of the lot, and the sublist of the places taken, going through the base in this order."""
    left = lot
    taken = []
    for place in order:
        if meets(base[place], left):
            left = common(left, base[place])
            taken.append(place)
    return (left, tuple(sorted(taken)))


def taken_in(base, worlds, order):
    """Return the sublist that is taken in the order."""
    lots = base_of(base, worlds)
    if len(places_in(order, len(lots))) < len(lots):
        raise BadOrder(len(order))
    _, taken = taken_from(lots, order, every(worlds))
    return taken


def all_taken(base, worlds):
    """Return the unlike sublists that are taken over all orders, in sublist order."""
    lots = base_of(base, worlds)
    if len(lots) > MOST_ORDERED_BASE:
        raise TooMany(MOST_ORDERED_BASE)
    # Put first in an order, a greatest sublist that says something is taken whole; and what is taken is one.
    return rests_for(lots, worlds, ())


def held_over_orders(rank, base):
    """Return the unlike lots that the rank holds behind leads of the base over all orders, in lot order."""
    lots = base_of(base, rank.worlds)
    said = [part_of(lots, rest, rank.worlds) for rest in rests_for(lots, rank.worlds, ())]
    return in_lot_order([rank.best(lot) for lot in said])


def base_rank(base, worlds):
    """Return the rank of the base."""
    lots = base_with(base, worlds, 1)
    return act_of(lots[::-1], worlds)


def greedy(base, worlds, lot):
    """Return the common part of the lot and of the lots at the greedy places, and these places."""
    lots = base_of(base, worlds)
    asked = lot_of(lot, worlds, empty=False)
    return taken_from(lots, tuple(range(len(lots))), asked)


def short_base(rank):
    """Return a shortest base whose rank this is."""
    return act_row(rank)[::-1]
