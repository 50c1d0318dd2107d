"""Give-up tables: what is held when a lot is given up."""

from newsbooks.checks import check_worlds, is_row
from newsbooks.errors import BadTable, TooMany
from newsbooks.lots import lot_but_all, lot_fault, lot_key, lots_in_order
from newsbooks.masks import mask_of
from newsbooks.tables import MOST_TABLED
from newsbooks.turning import levelled, sunk


def is_giving_pair(entry, worlds, taken):
    """Return whether the entry is a pair of a lot but W that was not taken and a lot."""
    if not is_row(entry) or len(entry) != 2:
        return False
    lot, answer = entry
    if lot_fault(lot, worlds) is not None or lot_fault(answer, worlds) is not None:
        return False
    return len(lot) < worlds and tuple(sorted(lot)) not in taken


def givings_by_lot(worlds, answers):
    """Return the answers as a dict of lots, in the order handed in."""
    if not is_row(answers):
        raise BadTable(-1)
    found = {}
    for place, entry in enumerate(answers):
        if not is_giving_pair(entry, worlds, found):
            raise BadTable(place)
        lot, answer = entry
        found[tuple(sorted(lot))] = tuple(sorted(answer))
    if len(found) < (1 << worlds) - 1:
        raise BadTable(len(answers))
    return found


def lots_but_all(worlds):
    """Return the list of all lots but W, in lot order."""
    return lots_in_order(worlds)[:-1]


def check_tabled(rank):
    """Refuse a rank of more worlds than tables have."""
    if rank.worlds > MOST_TABLED:
        raise TooMany(MOST_TABLED)


class Giving:
    """A give-up table: all lots but W, each with what is held when it is given up."""

    def __init__(self, worlds, answers):
        check_worlds(worlds, MOST_TABLED)
        by_lot = givings_by_lot(worlds, answers)
        self.worlds = worlds
        self.pairs = tuple([(lot, by_lot[lot]) for lot in sorted(list(by_lot), key=lot_key)])
        self.by_lot = by_lot

    @classmethod
    def level_of(cls, rank):
        """Return the level table of the rank."""
        check_tabled(rank)
        return cls(rank.worlds, [(lot, levelled(rank, lot).held) for lot in lots_but_all(rank.worlds)])

    @classmethod
    def sink_of(cls, rank):
        """Return the sink table of the rank."""
        check_tabled(rank)
        return cls(rank.worlds, [(lot, sunk(rank, lot).held) for lot in lots_but_all(rank.worlds)])

    @property
    def held(self):
        """What is held when nothing is given up."""
        return self.by_lot[()]

    def kept(self, lot):
        """Return what is held when the lot is given up."""
        return self.by_lot[lot_but_all(lot, self.worlds)]

    def __eq__(self, other):
        return isinstance(other, Giving) and self.pairs == other.pairs

    def __len__(self):
        return len(self.pairs)


def kept_masks(giving):
    """Return the list that has at the mask of each lot but W the mask of what is held when it is given up."""
    kept = {mask_of(lot): mask_of(answer) for lot, answer in giving.pairs}
    return [kept[mask] for mask in range(len(giving.pairs))]
