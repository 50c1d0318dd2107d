"""Products of ranks, and what they tell."""

from newsbooks.checks import check_same_worlds
from newsbooks.errors import BadNumber
from newsbooks.ranks import Rank


def products(*ranks):
    """Return the product of the ranks from left to right."""
    if not ranks:
        raise BadNumber("ranks")
    result = ranks[0]
    for rank in ranks[1:]:
        result = result * rank
    return result


def agree(one, other):
    """Return whether no two worlds stand opposite in the two ranks."""
    return opposite(one, other) is None


def opposite(one, other):
    """Return the least pair of worlds that stand opposite in the two ranks, or None."""
    check_same_worlds(one, other)
    for world in range(one.worlds):
        for second in range(one.worlds):
            if one.levels[world] < one.levels[second] and other.levels[world] > other.levels[second]:
                return (world, second)
    return None


def two_cells(rank):
    """Return the ranks of two cells, shortest first cell first, whose product is the rank."""
    return tuple([Rank.two(lot, rank.worlds) for lot in rank.beginnings()[:-1]])


def finer(one, other):
    """Return whether each cell of one lies inside a cell of other."""
    check_same_worlds(one, other)
    return all([other.levels[world] == other.levels[cell[0]] for cell in one.cells for world in cell])


def led_by(rank, goal):
    """Return a rank whose product with rank is the goal, or None."""
    check_same_worlds(rank, goal)
    return goal if finer(goal, rank) else None
