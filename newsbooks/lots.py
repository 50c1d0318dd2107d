"""Lots: ascending tuples of worlds."""

from newsbooks.checks import check_worlds, is_integer, is_row, wrong_entry
from newsbooks.errors import BadLot, BadNumber


def lot_fault(lot, worlds):
    """Return the place that BadLot names for this lot, or None if it is a lot."""
    if not is_row(lot):
        return -1
    return wrong_entry(lot, worlds)


def is_book(lot, worlds):
    """Return whether this is a lot that is not empty."""
    return lot_fault(lot, worlds) is None and len(lot) > 0


def parting_fault(parts, worlds):
    """Return the place that an error names for these parts of W; None if they are lots, none empty, that part W."""
    if not is_row(parts):
        return -1
    seen = []
    for place, lot in enumerate(parts):
        if not is_book(lot, worlds) or meets(lot, seen):
            return place
        seen = seen + list(lot)
    return len(parts) if len(seen) < worlds else None


def lot_of(lot, worlds, *, empty=True):
    """Return the lot as an ascending tuple."""
    check_worlds(worlds)
    place = lot_fault(lot, worlds)
    if place is not None:
        raise BadLot(place)
    if len(lot) == 0 and not empty:
        raise BadLot(-1)
    return tuple(sorted(lot))


def lot_but_all(lot, worlds):
    """Return the lot as an ascending tuple, and refuse W."""
    kept = lot_of(lot, worlds)
    if len(kept) == worlds:
        raise BadLot(-1)
    return kept


def every(worlds):
    """Return W."""
    check_worlds(worlds)
    return tuple(range(worlds))


def rest_of(lot, worlds):
    """Return the worlds outside the lot."""
    return minus(every(worlds), lot_of(lot, worlds))


def plus(one, other):
    """Return the worlds of one lot or the other."""
    return tuple(sorted(set(list(one) + list(other))))


def common(one, other):
    """Return the worlds of both lots."""
    return tuple(sorted([world for world in one if world in other]))


def minus(one, other):
    """Return the worlds of the first lot alone."""
    return tuple(sorted([world for world in one if world not in other]))


def inside(one, other):
    """Return whether each world of one is a world of other."""
    return all([world in other for world in one])


def meets(one, other):
    """Return whether the lots have a common world."""
    return any([world in other for world in one])


def lot_key(lot):
    """Return what lot order goes by, for an ascending lot."""
    return (len(lot), lot)


def in_lot_order(lots):
    """Return the tuple of these ascending lots in lot order, each once."""
    return tuple(sorted(list({lot: True for lot in lots}), key=lot_key))


def lot_before(one, other):
    """Return whether one stands before other in lot order."""
    return lot_key(tuple(sorted(one))) < lot_key(tuple(sorted(other)))


def longer_lots(lots, worlds):
    """Return, in lot order, the lots with one world more than these, which have one number of worlds."""
    return [lot + (world,) for lot in lots for world in range(lot[-1] + 1 if lot else 0, worlds)]


def lots_in_order(worlds):
    """Return the list of all lots of any number of worlds, 0 too, in lot order."""
    found = []
    lots = [()]
    while lots:
        found = found + lots
        lots = longer_lots(lots, worlds)
    return found


def books_inside(lot):
    """Return the list of the lots inside an ascending lot that are not empty, in lot order."""
    return [tuple([lot[place] for place in places]) for places in lots_in_order(len(lot)) if places]


def all_lots(worlds, *, most=None):
    """Yield all lots in lot order, or only those of at most so many worlds."""
    check_worlds(worlds)
    if most is not None and not (is_integer(most) and most >= 0):
        raise BadNumber("most")
    for lot in lots_in_order(worlds):
        if most is None or len(lot) <= most:
            yield lot
