"""Bases: lists of lots that need not be closed, and the sublists of them."""

from newsbooks.checks import check_worlds, is_row, is_within, wrong_entry
from newsbooks.errors import BadBase, BadNumber, BadOrder, TooMany
from newsbooks.families import part_of
from newsbooks.lots import inside, lot_fault, lot_of, lots_in_order

MOST_BASED = 8
MOST_WHOLE = 4


def base_of(base, worlds):
    """Return the base as a tuple of ascending lots, in the order handed in."""
    return base_with(base, worlds, 0)


def base_with(base, worlds, fewest):
    """Return the base as base_of does, and refuse lots of fewer worlds, too."""
    check_worlds(worlds)
    if not is_row(base):
        raise BadBase(-1)
    for place, lot in enumerate(base):
        if lot_fault(lot, worlds) is not None or len(lot) < fewest:
            raise BadBase(place)
    if len(base) > MOST_BASED:
        raise TooMany(MOST_BASED)
    return tuple([tuple(sorted(lot)) for lot in base])


def places_in(sublist, many):
    """Return a sublist of so many places as an ascending tuple."""
    if not is_row(sublist):
        raise BadOrder(-1)
    place = wrong_entry(sublist, many)
    if place is not None:
        raise BadOrder(place)
    return tuple(sorted(sublist))


def sublist_of(base, worlds, sublist):
    """Return the sublist of the base as an ascending tuple."""
    return places_in(sublist, len(base_of(base, worlds)))


def says(base, worlds, sublist):
    """Return what the sublist says."""
    lots = base_of(base, worlds)
    return part_of(lots, places_in(sublist, len(lots)), worlds)


def carries(base, worlds, sublist, lot):
    """Return whether what the sublist says is inside the lot."""
    said = says(base, worlds, sublist)
    return inside(said, lot_of(lot, worlds))


def check_places(many):
    """Refuse all but a number of places that a base may have."""
    if not is_within(many, 0, MOST_BASED):
        raise BadNumber("many")


def all_sublists(many):
    """Return all sublists of so many places, in sublist order."""
    check_places(many)
    return tuple(lots_in_order(many))


def whole_base(worlds, book):
    """Return the lots in which the book lies, in lot order."""
    check_worlds(worlds, MOST_WHOLE)
    kept = lot_of(book, worlds, empty=False)
    return tuple([lot for lot in lots_in_order(worlds) if inside(kept, lot)])
