"""Facts: names with values, whose rows of values are the worlds."""

from newsbooks.checks import MOST_WORLDS, check_world, is_row, is_within, wrong_entry
from newsbooks.errors import BadFacts, BadNumber, BadWord, TooMany
from newsbooks.lots import inside, lot_of, meets

LETTERS = "abcdefghijklmnopqrstuvwxyz"
FIGURES = "0123456789"
NOT_NAMES = ("yes", "no", "not", "and", "or", "self")
MOST_FACTS = 4
MOST_VALUES = 4
MOST_SIGNS = 10


def is_name(name):
    """Return whether this can be the name of a fact."""
    if not isinstance(name, str) or not 1 <= len(name) <= MOST_SIGNS:
        return False
    if name[0] not in LETTERS or name in NOT_NAMES:
        return False
    return all([sign in LETTERS or sign in FIGURES for sign in name])


def check_names(names):
    """Refuse all but one to four unlike names."""
    if not is_row(names) or not 1 <= len(names) <= MOST_FACTS:
        raise BadFacts(-1)
    for place, name in enumerate(names):
        if not is_name(name) or name in names[:place]:
            raise BadFacts(place)


def check_counts(counts, many):
    """Refuse all but so many counts of values."""
    if not is_row(counts) or len(counts) != many:
        raise BadNumber("counts")
    if not all([is_within(count, 2, MOST_VALUES) for count in counts]):
        raise BadNumber("counts")


def is_value_row(row, counts):
    """Return whether this is a row of one value for each fact."""
    if not is_row(row) or len(row) != len(counts):
        return False
    return all([is_within(value, 0, count - 1) for value, count in zip(row, counts)])


def check_barred(barred, counts):
    """Refuse all but a sequence of value rows."""
    if not is_row(barred):
        raise BadFacts(-1)
    for place, row in enumerate(barred):
        if not is_value_row(row, counts):
            raise BadFacts(place)


def value_rows(counts):
    """Return the list of all value rows, ascending."""
    rows = [()]
    for count in counts:
        rows = [row + (value,) for row in rows for value in range(count)]
    return rows


def facts_of(facts, many):
    """Return a set of facts as an ascending tuple."""
    if not is_row(facts):
        raise BadFacts(-1)
    place = wrong_entry(facts, many)
    if place is not None:
        raise BadFacts(place)
    return tuple(sorted(facts))


class Facts:
    """One to four facts, and the worlds that their values make."""

    def __init__(self, names, counts, barred=()):
        check_names(names)
        check_counts(counts, len(names))
        check_barred(barred, counts)
        gone = [tuple(row) for row in barred]
        rows = [row for row in value_rows(counts) if row not in gone]
        if not rows:
            raise BadNumber("barred")
        if len(rows) > MOST_WORLDS:
            raise TooMany(MOST_WORLDS)
        self.names = tuple(names)
        self.counts = tuple(counts)
        self.worlds = len(rows)
        self.rows = tuple(rows)

    @property
    def full(self):
        """Whether no value row is barred."""
        return len(value_rows(self.counts)) == self.worlds

    @property
    def many(self):
        """The number of facts."""
        return len(self.names)

    def world(self, **values):
        """Return the world with these values, or None if their row is barred."""
        for name in self.names:
            if name not in values:
                raise BadWord(name)
        for name in sorted(list(values)):
            if name not in self.names:
                raise BadWord(name)
            if not is_within(values[name], 0, self.counts[self.names.index(name)] - 1):
                raise BadWord(name)
        row = tuple([values[name] for name in self.names])
        return self.rows.index(row) if row in self.rows else None

    def row_of(self, world):
        """Return the value row of the world."""
        check_world(world, self.worlds, "world")
        return self.rows[world]

    def alike_classes(self, facts):
        """Return the lots of the worlds alike on these facts, by their least worlds."""
        chosen = facts_of(facts, self.many)
        lots = {}
        for world, row in enumerate(self.rows):
            share = tuple([row[fact] for fact in chosen])
            lots[share] = lots.get(share, ()) + (world,)
        return tuple(lots.values())

    def hangs_on(self, lot):
        """Return the set of the facts on which the lot hangs."""
        kept = lot_of(lot, self.worlds)
        found = []
        for fact in range(self.many):
            lots = self.alike_classes([other for other in range(self.many) if other != fact])
            if any([meets(part, kept) and not inside(part, kept) for part in lots]):
                found.append(fact)
        return tuple(found)

    def told_by(self, lot, facts):
        """Return whether the lot is told by the set of facts."""
        return self.shadow(lot, facts) == lot_of(lot, self.worlds)

    def shadow(self, lot, facts):
        """Return the worlds alike on the facts to some world of the lot."""
        kept = lot_of(lot, self.worlds)
        lots = self.alike_classes(facts)
        return tuple(sorted([world for part in lots if meets(part, kept) for world in part]))

    def floor(self, lot, facts):
        """Return the worlds all of whose alike ones on the facts lie in the lot."""
        kept = lot_of(lot, self.worlds)
        lots = self.alike_classes(facts)
        return tuple(sorted([world for part in lots if inside(part, kept) for world in part]))
