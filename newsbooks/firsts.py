"""First lots, the keeping ranks that they make, and the best lots in these."""

from newsbooks.chains import Chains
from newsbooks.comparisons import comparisons_of
from newsbooks.errors import TooMany
from newsbooks.lots import books_inside, lot_of
from newsbooks.masks import lot_in, mask_of, unions_of
from newsbooks.ranks import Rank

MOST_LISTED = 6
MOST_ASKED = 10


def into_masks(worlds, comparisons, signs):
    """Return for each lot, by its mask, the worlds from which comparisons of these signs lead into it."""
    masks = [0] * worlds
    for left, sign, right in comparisons:
        if sign in signs:
            masks[right] = masks[right] | 1 << left
    return unions_of(masks)


class FirstCheck:
    """Tells whether one lot is a first lot of another one, both as masks."""

    def __init__(self, worlds, comparisons):
        self.into = into_masks(worlds, comparisons, ("<", "<="))
        stricts = into_masks(worlds, comparisons, ("<",))
        self.sound = [mask & stricts[mask] == 0 for mask in range(len(stricts))]

    def is_first(self, part, whole):
        """Return whether part, inside whole and not empty, is a first lot of whole."""
        return self.sound[part] and self.into[part] & whole & ~part == 0


def first_lots(worlds, comparisons, lot):
    """Return the first lots of the lot, in lot order."""
    told = comparisons_of(comparisons, worlds)
    asked = lot_of(lot, worlds, empty=False)
    check = FirstCheck(worlds, told)
    whole = mask_of(asked)
    return tuple([part for part in books_inside(asked) if check.is_first(mask_of(part), whole)])


def count_keeping(worlds, comparisons):
    """Return the number of keeping ranks."""
    check = FirstCheck(worlds, comparisons_of(comparisons, worlds))
    full = (1 << worlds) - 1
    # ways[X]: in how many ways first lots, taken away one by one from W, leave X.
    ways = [0] * full + [1]
    for whole in range(full, 0, -1):
        part = whole if ways[whole] else 0
        while part > 0:
            if check.is_first(part, whole):
                ways[whole - part] = ways[whole - part] + ways[whole]
            part = (part - 1) & whole
    return ways[0]


def keeping_ranks(worlds, comparisons):
    """Return all keeping ranks, by their first cells in lot order, then by their second cells, and so on."""
    told = comparisons_of(comparisons, worlds)
    if worlds > MOST_LISTED:
        raise TooMany(MOST_LISTED)
    return tuple([Rank(row) for row in rows_of_cells(worlds, told)])


def rows_of_cells(worlds, comparisons):
    """Return the list of the cells of all keeping ranks, in the order of keeping_ranks."""
    check = FirstCheck(worlds, comparisons)
    full = (1 << worlds) - 1
    # rows[X]: all rows of first lots that, taken away one by one from X, leave nothing.
    rows = [[()]]
    for whole in range(1, full + 1):
        firsts = [lot for lot in books_inside(lot_in(whole)) if check.is_first(mask_of(lot), whole)]
        found = [(lot,) + row for lot in firsts for row in rows[whole - mask_of(lot)]]
        rows.append(found)
    return rows[full]


def reached_from(masks, lot):
    """Return the mask of all worlds that the masks of the worlds of the lot have."""
    union = 0
    for world in lot:
        union = union | masks[world]
    return union


def is_best_lot(chains, part, asked):
    """Return whether part, inside asked and not empty, is the best lot of asked in some keeping rank."""
    mask = mask_of(part)
    others = [world for world in asked if world not in part]
    if reached_from(chains.strict_masks, part) & mask:
        return False
    return reached_from(chains.reach_masks, others) & mask == 0


def best_lots(worlds, comparisons, lot):
    """Return all lots that are best of the lot in some keeping rank, in lot order."""
    chains = Chains(worlds, comparisons)
    asked = lot_of(lot, worlds, empty=False)
    if len(asked) > MOST_ASKED:
        raise TooMany(MOST_ASKED)
    if chains.torn:
        return ()
    return tuple([part for part in books_inside(asked) if is_best_lot(chains, part, asked)])


def some_of(chains, asked):
    """Return the worlds that lie in the best of asked in some keeping rank of a kept list."""
    behind = reached_from(chains.strict_masks, asked)
    return tuple([world for world in asked if not behind >> world & 1])


def in_some(worlds, comparisons, lot):
    """Return the worlds that lie in the best of the lot in some keeping rank."""
    chains = Chains(worlds, comparisons)
    asked = lot_of(lot, worlds, empty=False)
    return () if chains.torn else some_of(chains, asked)


def in_all(worlds, comparisons, lot):
    """Return the worlds that lie in the best of the lot in all keeping ranks."""
    chains = Chains(worlds, comparisons)
    asked = lot_of(lot, worlds, empty=False)
    if chains.torn:
        return ()
    some = mask_of(some_of(chains, asked))
    return tuple([world for world in asked if chains.reach_masks[world] & some == some])
