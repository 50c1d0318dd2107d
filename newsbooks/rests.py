"""Rests and kernels: the greatest sublists of a base that do not carry a lot, and the least ones that do."""

from newsbooks.bases import base_of, check_places, places_in
from newsbooks.checks import is_row, wrong_entry
from newsbooks.errors import BadOrder
from newsbooks.lots import lot_but_all, lots_in_order, minus
from newsbooks.masks import mask_of

# Sublists are masks here, too: the bit k is set if the sublist has the place k.


def said_masks(base, worlds):
    """Return the list that has at the mask of each sublist the mask of what it says."""
    said = [(1 << worlds) - 1]
    for lot in base:
        mask = mask_of(lot)
        said = said + [part & mask for part in said]
    return said


def carrying(base, worlds, lot):
    """Return the list that tells at the mask of each sublist whether it carries the lot."""
    outside = ~mask_of(lot)
    return [part & outside == 0 for part in said_masks(base, worlds)]


def is_greatest_not(carried, many, mask):
    """Return whether the sublist does not carry, though with any further place it does."""
    return not carried[mask] and all([carried[mask | 1 << at] for at in range(many) if not mask >> at & 1])


def is_least(holds, many, mask):
    """Return whether it holds of the sublist, though without any one of its places it does not."""
    return holds[mask] and not any([holds[mask - (1 << at)] for at in range(many) if mask >> at & 1])


def rests_for(base, worlds, lot):
    """Return the rests for the lot, for a base and a lot that are right."""
    many = len(base)
    carried = carrying(base, worlds, lot)
    return tuple([places for places in lots_in_order(many) if is_greatest_not(carried, many, mask_of(places))])


def kernels_for(base, worlds, lot):
    """Return the kernels for the lot, for a base and a lot that are right."""
    many = len(base)
    carried = carrying(base, worlds, lot)
    return tuple([places for places in lots_in_order(many) if is_least(carried, many, mask_of(places))])


def rests(base, worlds, lot):
    """Return the rests for the lot, in sublist order."""
    lots = base_of(base, worlds)
    return rests_for(lots, worlds, lot_but_all(lot, worlds))


def kernels(base, worlds, lot):
    """Return the kernels for the lot, in sublist order."""
    lots = base_of(base, worlds)
    return kernels_for(lots, worlds, lot_but_all(lot, worlds))


def in_every_rest(base, worlds, lot):
    """Return the places that are in every rest for the lot."""
    found = rests(base, worlds, lot)
    return tuple([place for place in range(len(base)) if all([place in rest for rest in found])])


def in_no_kernel(base, worlds, lot):
    """Return the places that are in no kernel for the lot."""
    found = kernels(base, worlds, lot)
    return tuple([place for place in range(len(base)) if not any([place in kernel for kernel in found])])


def is_rest(base, worlds, lot, sublist):
    """Return whether the sublist is a rest for the lot."""
    found = rests(base, worlds, lot)
    return places_in(sublist, len(base)) in found


def lists_fault(lists, many):
    """Return the place that BadOrder names for these sublists, or None."""
    if not is_row(lists):
        return -1
    for place, sublist in enumerate(lists):
        if not is_row(sublist) or wrong_entry(sublist, many) is not None:
            return place
    return None


def hitting(lists, many):
    """Return the least sublists of so many places that have a common place with each of the lists."""
    check_places(many)
    place = lists_fault(lists, many)
    if place is not None:
        raise BadOrder(place)
    masks = sorted(set([mask_of(sublist) for sublist in lists]))
    hits = [all([mask & told for told in masks]) for mask in range(1 << many)]
    return tuple([places for places in lots_in_order(many) if is_least(hits, many, mask_of(places))])


def left_out(sublist, many):
    """Return the places that the sublist does not have."""
    check_places(many)
    return minus(tuple(range(many)), places_in(sublist, many))
