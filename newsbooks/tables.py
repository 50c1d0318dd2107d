"""Tables, which have for each lot that is not empty an answer inside it."""

from newsbooks.checks import check_same_worlds, check_worlds, is_integer, is_row, is_within, wrong_entry
from newsbooks.errors import BadComparison, BadNumber, BadOrder, BadTable, TooMany
from newsbooks.lots import books_inside, every, inside, is_book, lot_key, lot_of, plus
from newsbooks.masks import mask_of

MOST_TABLED = 6
MOST_LISTED = 3
MOST_ORDERED = 12


def is_pair_of(entry, worlds, taken):
    """Return whether the entry is a pair of a lot that was not taken and an answer inside it."""
    if not is_row(entry) or len(entry) != 2:
        return False
    lot, answer = entry
    if not is_book(lot, worlds) or tuple(sorted(lot)) in taken:
        return False
    return is_book(answer, worlds) and inside(answer, lot)


def answers_by_lot(worlds, answers):
    """Return the answers as a dict of lots, in the order handed in."""
    if not is_row(answers):
        raise BadTable(-1)
    found = {}
    for place, entry in enumerate(answers):
        if not is_pair_of(entry, worlds, found):
            raise BadTable(place)
        lot, answer = entry
        found[tuple(sorted(lot))] = tuple(sorted(answer))
    if len(found) < (1 << worlds) - 1:
        raise BadTable(len(answers))
    return found


def check_orders(orders):
    """Refuse all but strict orders of the same worlds."""
    if not is_row(orders) or len(orders) == 0:
        raise BadOrder(-1)
    for place, order in enumerate(orders):
        if not is_row(order) or len(order) != len(orders[0]) or not 1 <= len(order) <= MOST_ORDERED:
            raise BadOrder(place)
        if wrong_entry(order, len(order)) is not None:
            raise BadOrder(place)
    if len(orders[0]) > MOST_TABLED:
        raise TooMany(MOST_TABLED)


def first_in(order, lot):
    """Return the first world of the lot in the order."""
    return [world for world in order if world in lot][0]


def check_ahead(ahead, worlds):
    """Refuse all but a sequence of pairs of worlds."""
    if not is_row(ahead):
        raise BadComparison(-1)
    for place, entry in enumerate(ahead):
        if not is_row(entry) or len(entry) != 2:
            raise BadComparison(place)
        if not all([is_within(world, 0, worlds - 1) for world in entry]):
            raise BadComparison(place)


def unbeaten(lot, ahead):
    """Return the worlds of the lot of which no world of the lot is ahead."""
    beaten = [after for before, after in ahead if before in lot]
    return tuple([world for world in lot if world not in beaten])


def check_stretches(starts, ends):
    """Refuse all but stretches of some worlds."""
    if not is_row(starts) or not 1 <= len(starts) <= MOST_TABLED:
        raise BadNumber("starts")
    if not all([is_integer(start) for start in starts]):
        raise BadNumber("starts")
    if not is_row(ends) or len(ends) != len(starts):
        raise BadNumber("ends")
    if not all([is_integer(end) and end >= start for start, end in zip(starts, ends)]):
        raise BadNumber("ends")


class Table:
    """A table: the lots that are not empty, each with its answer."""

    def __init__(self, worlds, answers):
        check_worlds(worlds, MOST_TABLED)
        by_lot = answers_by_lot(worlds, answers)
        self.worlds = worlds
        self.pairs = tuple([(lot, by_lot[lot]) for lot in sorted(list(by_lot), key=lot_key)])
        self.by_lot = by_lot

    @classmethod
    def of_rank(cls, rank):
        """Return the table of the best lots of the rank."""
        if rank.worlds > MOST_TABLED:
            raise TooMany(MOST_TABLED)
        pairs = [(lot, rank.best(lot)) for lot in books_inside(every(rank.worlds))]
        return cls(rank.worlds, pairs)

    @classmethod
    def of_orders(cls, orders):
        """Return the table of the first worlds in these strict orders."""
        check_orders(orders)
        worlds = len(orders[0])
        pairs = []
        for lot in books_inside(every(worlds)):
            firsts = sorted(set([first_in(order, lot) for order in orders]))
            pairs.append((lot, firsts))
        return cls(worlds, pairs)

    @classmethod
    def of_relation(cls, worlds, ahead):
        """Return the table of the worlds of which no other asked one is ahead."""
        check_worlds(worlds, MOST_TABLED)
        check_ahead(ahead, worlds)
        pairs = [(lot, unbeaten(lot, ahead)) for lot in books_inside(every(worlds))]
        # A row of pairs from a world to itself leaves the lot of its worlds no answer.
        if not all([answer for _, answer in pairs]):
            raise BadComparison(-1)
        return cls(worlds, pairs)

    @classmethod
    def of_stretches(cls, starts, ends):
        """Return the table of the worlds that no other asked one ends before."""
        check_stretches(starts, ends)
        worlds = len(starts)
        ahead = [(x, y) for x in range(worlds) for y in range(worlds) if ends[x] < starts[y]]
        return cls(worlds, [(lot, unbeaten(lot, ahead)) for lot in books_inside(every(worlds))])

    @property
    def held(self):
        """The answer to W."""
        return self.by_lot[every(self.worlds)]

    def answer(self, lot):
        """Return the answer to the lot."""
        return self.by_lot[lot_of(lot, self.worlds, empty=False)]

    def __eq__(self, other):
        return isinstance(other, Table) and self.pairs == other.pairs

    def __len__(self):
        return len(self.pairs)

    def __add__(self, other):
        if not isinstance(other, Table):
            return NotImplemented
        check_same_worlds(self, other)
        return Table(self.worlds, [(lot, plus(answer, other.by_lot[lot])) for lot, answer in self.pairs])


def answer_masks(table):
    """Return the list that has at the mask of each lot the mask of its answer, 0 for the empty lot."""
    masks = [0] * (len(table.pairs) + 1)
    for lot, answer in table.pairs:
        masks[mask_of(lot)] = mask_of(answer)
    return masks


def all_tables(worlds):
    """Yield all tables; the answer to the last lot changes fastest."""
    check_worlds(worlds, MOST_TABLED)
    if worlds > MOST_LISTED:
        raise TooMany(MOST_LISTED)
    lots = books_inside(every(worlds))
    rows = [()]
    for lot in lots:
        rows = [row + ((lot, answer),) for row in rows for answer in books_inside(lot)]
    for row in rows:
        yield Table(worlds, row)


def then(one, other):
    """Return the table that asks the second table for the answers of the first one."""
    check_same_worlds(one, other)
    return Table(one.worlds, [(lot, other.by_lot[answer]) for lot, answer in one.pairs])
