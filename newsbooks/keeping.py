"""What is so in all ranks that keep a list of comparisons."""

from newsbooks.chains import Chains
from newsbooks.checks import is_integer, is_within
from newsbooks.comparisons import comparisons_of
from newsbooks.errors import BadNumber
from newsbooks.ranks import Rank


def least_levels(worlds, comparisons):
    """Return the greatest number of strict comparisons on a chain to each world, of a kept list."""
    levels = [0] * worlds
    for _ in range(worlds):
        for left, sign, right in comparisons:
            levels[right] = max(levels[right], levels[left] + (1 if sign == "<" else 0))
    return levels


def least_of(chains):
    """Return the least keeping rank of the list of these chains, or None."""
    if chains.torn:
        return None
    return Rank.of_levels(least_levels(chains.worlds, chains.comparisons))


def least_rank(worlds, comparisons):
    """Return the least keeping rank, or None if the list is not kept."""
    return least_of(Chains(worlds, comparisons))


def before_in_all(worlds, comparisons, one, other):
    """Return how one stands to other in all keeping ranks, or None if there are none."""
    chains = Chains(worlds, comparisons)
    chains.check_pair(one, other)
    if chains.torn:
        return None
    if chains.strictly(one, other):
        return "before"
    if not chains.reaches(one, other):
        return "open"
    return "alike" if chains.reaches(other, one) else "not behind"


def fewest_cells(worlds, comparisons):
    """Return the least number of cells of a keeping rank, or None."""
    least = least_rank(worlds, comparisons)
    return None if least is None else len(least.cells)


def most_cells(worlds, comparisons):
    """Return the greatest number of cells of a keeping rank, or None."""
    chains = Chains(worlds, comparisons)
    return None if chains.torn else len(chains.alike_lots())


def some_keeping(worlds, comparisons, cells):
    """Return a keeping rank with so many cells, or None."""
    chains = Chains(worlds, comparisons)
    if not (is_integer(cells) and cells >= 1):
        raise BadNumber("cells")
    least = least_of(chains)
    if least is None or not len(least.cells) <= cells <= len(chains.alike_lots()):
        return None
    return split_rank(least, finest_lots(chains, least), cells - len(least.cells))


def finest_lots(chains, least):
    """Return the alike lots as the cells of a keeping rank that goes along with the least one.

    What is reached by more worlds comes later: a chain leads only to worlds reached by as many or more.
    """
    froms = [0] * chains.worlds
    for mask in chains.reach_masks:
        for world in range(chains.worlds):
            froms[world] = froms[world] + (mask >> world & 1)
    keys = sorted([(least.levels[lot[0]], froms[lot[0]], lot) for lot in chains.alike_lots()])
    return [lot for _, _, lot in keys]


def split_rank(least, lots, extra):
    """Return the rank with so many cells more than the least one, whose cells join neighbouring lots."""
    cells = []
    last = -1
    for lot in lots:
        level = least.levels[lot[0]]
        if level > last:
            cells.append(lot)
        elif extra > 0:
            cells.append(lot)
            extra -= 1
        else:
            cells[-1] = cells[-1] + lot
        last = level
    return Rank(cells)


def is_spare(worlds, comparisons, place):
    """Return whether the same ranks keep the list without the comparison at this place."""
    told = comparisons_of(comparisons, worlds)
    if not is_within(place, 0, len(told) - 1):
        raise BadNumber("place")
    left, sign, right = told[place]
    others = Chains(worlds, told[:place] + told[place + 1:])
    if others.torn:
        return True
    return others.strictly(left, right) if sign == "<" else others.reaches(left, right)


def same_keeping(worlds, one, other):
    """Return whether the same ranks keep both lists."""
    first = Chains(worlds, one)
    second = Chains(worlds, other)
    if first.torn or second.torn:
        return first.torn and second.torn
    return first.reach_masks == second.reach_masks and first.strict_masks == second.strict_masks
