"""How few asks tell a rank, and how many told cases may be wrong only together."""

from newsbooks.cases import MOST_CASES, Told
from newsbooks.checks import MOST_WORLDS, is_within
from newsbooks.errors import BadNumber
from newsbooks.families import family_of
from newsbooks.lots import lots_in_order

LEAST_RING = 3


def asks_for(rank):
    """Return the few asks of the rank: cases that no other rank gives."""
    cases = []
    rest = ()
    for cell in rank.cells[::-1]:
        rest = rest + cell
        if len(rest) > 1:
            cases.append((rest, cell))
    return Told(rank.worlds, cases[::-1])


def unseen_pair(family, worlds):
    """Return the first lot of two worlds that is not in the family, or None."""
    lots = family_of(family, worlds, MOST_CASES)
    unseen = [lot for lot in lots_in_order(worlds) if len(lot) == 2 and lot not in lots]
    return unseen[0] if unseen else None


def tells_apart(family, worlds):
    """Return whether each two unlike ranks have unlike best lots of some lot of the family."""
    return unseen_pair(family, worlds) is None


def long_ring(worlds):
    """Return the cases of the long ring, of which each smaller number can be given together."""
    if not is_within(worlds, LEAST_RING, MOST_WORLDS):
        raise BadNumber("worlds")
    return Told(worlds, [((world, (world + 1) % worlds), (world,)) for world in range(worlds)])
