"""What rows of news, levels and sinks can reach."""

from newsbooks.checks import check_same_worlds, check_worlds
from newsbooks.families import common_parts, family_of, part_of
from newsbooks.leadrows import halving
from newsbooks.lots import in_lot_order, inside, lot_of, lots_in_order, rest_of
from newsbooks.ranks import Rank
from newsbooks.turning import parts_in, sunk
from newsbooks.turnwishes import same_order


def can_be_held(rank, family):
    """Return the lots that the rank led by rows over the family can hold, in lot order."""
    return in_lot_order([rank.best(part) for part in common_parts(family, rank.worlds)])


def news_for(rank, family, lot):
    """Return the least places of the family whose common part has the lot as its best, or None."""
    lots = family_of(family, rank.worlds)
    wanted = lot_of(lot, rank.worlds)
    for places in lots_in_order(len(lots)):
        part = part_of(lots, places, rank.worlds)
        if part and rank.best(part) == wanted:
            return places
    return None


def level_row(rank, goal):
    """Return a shortest row of lots by which the rank is levelled to the goal, or None."""
    check_same_worlds(rank, goal)
    front = goal.held
    if not inside(rank.held, front) or not same_order(rank, goal, rest_of(front, rank.worlds)):
        return None
    return tuple([rest_of(part, rank.worlds) for part in parts_in(rank.cells[1:], front)])


def fewest_levels(rank, goal):
    """Return how many lots the shortest rows have by which the rank is levelled to the goal, or None."""
    row = level_row(rank, goal)
    return None if row is None else len(row)


def one_sink(rank, goal):
    """Return a lot by which one sink turns the rank into the goal, or None."""
    check_same_worlds(rank, goal)
    if rank == goal:
        return ()
    for world in range(rank.worlds):
        given = rest_of((world,), rank.worlds)
        if sunk(rank, given) == goal:
            return given
    return None


def flat_by_sink(rank):
    """Return a lot by which one sink makes the rank flat."""
    return one_sink(rank, Rank.flat(rank.worlds))


def everywhere(worlds):
    """Return with how many leads, at most, each strict rank of these worlds can be reached from each other one."""
    check_worlds(worlds)
    return halving(worlds)


def strict_by_one(worlds):
    """Return into how many strict ranks one lead can turn a strict rank of these worlds."""
    check_worlds(worlds)
    return (1 << worlds) - worlds
