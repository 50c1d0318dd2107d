"""What told cases tell about the ranks that give them, and about lots that are not told."""

from newsbooks.chains import Chains, are_closing, ring_of
from newsbooks.firsts import best_lots, count_keeping, in_all, in_some
from newsbooks.keeping import least_rank
from newsbooks.lots import common, inside, lot_of, lots_in_order, meets, minus, plus


def rank_told(told):
    """Return the least rank that gives the cases, or None."""
    return least_rank(told.worlds, told.comparisons)


def steps_told(told):
    """Return the comparisons of the cases, each behind the number of its case."""
    return [(number,) + entry for number, entry in zip(told.sources, told.comparisons)]


def told_ring(told):
    """Return a told ring, or None if some rank gives the cases."""
    ring = ring_of(told.worlds, told.comparisons)
    if ring is None:
        return None
    steps = steps_told(told)
    return tuple([steps[place] for place in ring])


def is_told_ring(told, ring):
    """Return whether ring is a list or tuple of steps that is a told ring."""
    return are_closing(ring, steps_told(told))


def can_answer(told, lot):
    """Return all lots that can be the answer on the lot, in lot order."""
    return best_lots(told.worlds, told.comparisons, lot)


def forced(told, lot):
    """Return the lot that is the only one that can be the answer on the lot, or None."""
    chains = Chains(told.worlds, told.comparisons)
    asked = lot_of(lot, told.worlds, empty=False)
    if chains.torn:
        return None
    for first in asked:
        alike = tuple([world for world in asked if chains.reaches(world, first)])
        behind = minus(asked, alike)
        if all([chains.reaches(first, world) for world in alike]):
            if all([chains.strictly(first, world) for world in behind]):
                return alike
    return None


def told_some(told, lot):
    """Return the worlds that are in some lot that can be the answer."""
    return in_some(told.worlds, told.comparisons, lot)


def told_all(told, lot):
    """Return the worlds that are in each lot that can be the answer."""
    return in_all(told.worlds, told.comparisons, lot)


def count_told(told):
    """Return the number of ranks that give the cases."""
    return count_keeping(told.worlds, told.comparisons)


def arrow_break(told):
    """Return the first pair of numbers of cases that break arrow, or None."""
    for one, (lot, answer) in enumerate(told.cases):
        for other, (whole, first) in enumerate(told.cases):
            if inside(lot, whole) and meets(first, lot) and answer != common(first, lot):
                return (one, other)
    return None


def lots_told(told):
    """Return the list of the told lots."""
    return [lot for lot, _ in told.cases]


def union_told(told):
    """Return whether the union of each two told lots is told."""
    lots = lots_told(told)
    return all([plus(one, other) in lots for one in lots for other in lots])


def pairs_told(told):
    """Return whether all lots of two and of three worlds are told."""
    lots = lots_told(told)
    return all([lot in lots for lot in lots_in_order(told.worlds) if len(lot) in (2, 3)])
