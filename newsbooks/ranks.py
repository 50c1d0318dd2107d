"""Ranks: orders of all worlds, in cells of alike ones."""

from newsbooks.checks import MOST_WORLDS, check_same_worlds, check_world
from newsbooks.checks import is_integer, is_row, is_within, wrong_entry
from newsbooks.errors import BadNumber, BadOrder, BadRank
from newsbooks.lots import common, every, lot_of, plus, rest_of


def cells_fault(cells):
    """Return the place that BadRank names for these cells, or None if they make a rank."""
    if not is_row(cells) or len(cells) == 0:
        return -1
    seen = []
    for place, cell in enumerate(cells):
        if not is_row(cell) or len(cell) == 0:
            return place
        for entry in cell:
            if not is_within(entry, 0, MOST_WORLDS - 1) or entry in seen:
                return place
            seen.append(entry)
    if max(seen) >= len(seen):
        return len(cells)
    return None


def levels_of(cells):
    """Return the tuple of the levels of all worlds in these cells."""
    levels = {world: level for level, cell in enumerate(cells) for world in cell}
    return tuple([levels[world] for world in range(len(levels))])


def cells_by(numbers):
    """Return the cells of the worlds with equal numbers, those of lesser numbers first."""
    steps = sorted(set(numbers))
    return [[world for world, number in enumerate(numbers) if number == step] for step in steps]


class Rank:
    """A rank: its cells are disjoint lots, the first ones before the later ones."""

    def __init__(self, cells):
        place = cells_fault(cells)
        if place is not None:
            raise BadRank(place)
        self.cells = tuple([tuple(sorted(cell)) for cell in cells])
        self.levels = levels_of(self.cells)
        self.worlds = len(self.levels)

    @classmethod
    def flat(cls, worlds):
        """Return the rank of one cell."""
        return cls([every(worlds)])

    @classmethod
    def strict(cls, order):
        """Return the rank of a strict order."""
        if not is_row(order) or not 1 <= len(order) <= MOST_WORLDS:
            raise BadOrder(-1)
        place = wrong_entry(order, len(order))
        if place is not None:
            raise BadOrder(place)
        return cls([(world,) for world in order])

    @classmethod
    def of_levels(cls, numbers):
        """Return the rank in which the worlds of lesser numbers come before."""
        if not is_row(numbers) or not 1 <= len(numbers) <= MOST_WORLDS:
            raise BadNumber("numbers")
        if not all([is_integer(number) for number in numbers]):
            raise BadNumber("numbers")
        return cls(cells_by(numbers))

    @classmethod
    def two(cls, lot, worlds):
        """Return the rank with the lot as its first cell, then the other worlds."""
        front = lot_of(lot, worlds, empty=False)
        return cls([cell for cell in (front, rest_of(front, worlds)) if cell])

    @property
    def held(self):
        """The first cell."""
        return self.cells[0]

    def place_of(self, world):
        """Return the level of the world."""
        check_world(world, self.worlds, "world")
        return self.levels[world]

    def best(self, lot):
        """Return the worlds of the lot with the least level."""
        asked = lot_of(lot, self.worlds, empty=False)
        least = min([self.levels[world] for world in asked])
        return common(asked, self.cells[least])

    def behind_best(self, lot):
        """Return all worlds behind the best ones of the lot."""
        least = self.levels[self.best(lot)[0]]
        return tuple([world for world, level in enumerate(self.levels) if level > least])

    def is_before(self, one, other):
        """Return whether one is before other."""
        check_world(one, self.worlds, "one")
        check_world(other, self.worlds, "other")
        return self.levels[one] < self.levels[other]

    def is_alike(self, one, other):
        """Return whether one is alike with other."""
        check_world(one, self.worlds, "one")
        check_world(other, self.worlds, "other")
        return self.levels[one] == self.levels[other]

    def beginnings(self):
        """Return the unions of the first cells, the least first."""
        found = []
        union = ()
        for cell in self.cells:
            union = plus(union, cell)
            found.append(union)
        return tuple(found)

    def __mul__(self, other):
        if not isinstance(other, Rank):
            return NotImplemented
        check_same_worlds(self, other)
        many = len(other.cells)
        return Rank(cells_by([first * many + then for first, then in zip(self.levels, other.levels)]))

    def __eq__(self, other):
        return isinstance(other, Rank) and self.cells == other.cells

    def __len__(self):
        return len(self.cells)

    def __getitem__(self, at):
        if not is_within(at, 0, len(self.cells) - 1):
            raise BadNumber("place")
        return self.cells[at]

    def __iter__(self):
        return iter(self.cells)
