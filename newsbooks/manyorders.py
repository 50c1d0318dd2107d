"""Strict orders behind told cases."""

from newsbooks.cases import Told
from newsbooks.checks import check_order, is_integer, is_within
from newsbooks.errors import BadNumber
from newsbooks.masks import lot_in, mask_of
from newsbooks.tables import first_in


def fits_told(order, told):
    """Return whether the first world of each told lot in the strict order is in its answer."""
    check_order(order, told.worlds)
    return all([first_in(order, lot) in answer for lot, answer in told.cases])


def free_worlds(cases, left):
    """Return the worlds of what is left that may go; the lots of the cases, and what is left, are masks."""
    bound = 0
    for lot, answer in cases:
        if lot & ~left == 0:
            bound = bound | lot & ~answer
    return lot_in(left & ~bound)


def peel(told):
    """Return the worlds that the peel takes, in this order, and the lot that it leaves."""
    cases = [(mask_of(lot), mask_of(answer)) for lot, answer in told.cases]
    taken = []
    left = (1 << told.worlds) - 1
    free = free_worlds(cases, left)
    while free:
        taken.append(free[0])
        left = left - (1 << free[0])
        free = free_worlds(cases, left)
    return (tuple(taken), lot_in(left))


def torn_told(told):
    """Return the lot that the peel leaves, or None if it takes all worlds."""
    _, left = peel(told)
    return left if left else None


def with_answer(told, place, world):
    """Return the cases with this world alone as the answer at this place."""
    lot, _ = told.cases[place]
    return Told(told.worlds, told.cases[:place] + ((lot, (world,)),) + told.cases[place + 1:])


def narrowed_told(told, place, world):
    """Return the cases narrowed at this place and world."""
    if not is_within(place, 0, len(told.cases) - 1):
        raise BadNumber("place")
    _, answer = told.cases[place]
    if not is_integer(world) or world not in answer:
        raise BadNumber("world")
    return with_answer(told, place, world)


def peels_of(told):
    """Return for each place and each world of its answer (place, world, order, lot).

    The last two are what the peel of the cases narrowed there takes and leaves.
    """
    found = []
    for place, (_, answer) in enumerate(told.cases):
        for world in answer:
            order, left = peel(with_answer(told, place, world))
            found.append((place, world, order, left))
    return found


def orders_told(told):
    """Return strict orders that make the cases, one for each place and world of its answer, or None."""
    peels = peels_of(told)
    if any([left for _, _, _, left in peels]):
        return None
    return tuple([order for _, _, order, _ in peels])


def why_no_orders(told):
    """Return the first place and world where no strict order fits, and the torn lot; None if there is none."""
    torn = [(place, world, left) for place, world, _, left in peels_of(told) if left]
    return torn[0] if torn else None
