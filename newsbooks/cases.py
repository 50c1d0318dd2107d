"""Told cases: lots, each with an answer that a rank gave."""

from newsbooks.checks import check_same_worlds, check_worlds, is_row
from newsbooks.errors import BadCase, BadLot, TooMany
from newsbooks.families import family_of
from newsbooks.lots import inside, is_book, lot_of, minus

MOST_CASES = 80


def is_case(entry, worlds):
    """Return whether this is a lot and an answer inside it, neither empty."""
    if not is_row(entry) or len(entry) != 2:
        return False
    lot, answer = entry
    return is_book(lot, worlds) and is_book(answer, worlds) and inside(answer, lot)


def cases_of(cases, worlds):
    """Return the cases as a tuple of pairs of ascending lots."""
    check_worlds(worlds)
    if not is_row(cases):
        raise BadCase(-1)
    for place, entry in enumerate(cases):
        if not is_case(entry, worlds):
            raise BadCase(place)
    if len(cases) > MOST_CASES:
        raise TooMany(MOST_CASES)
    return tuple([(tuple(sorted(lot)), tuple(sorted(answer))) for lot, answer in cases])


def alike_comparisons(lot):
    """Return the list of the comparisons that make the worlds of the lot, which is not empty, alike."""
    found = []
    for world in lot[1:]:
        found = found + [(lot[0], "<=", world), (world, "<=", lot[0])]
    return found


def comparisons_of_case(lot, answer):
    """Return the list of the comparisons of one case."""
    return alike_comparisons(answer) + [(answer[0], "<", world) for world in minus(lot, answer)]


class Told:
    """Told cases, in the order handed in."""

    def __init__(self, worlds, cases):
        self.cases = cases_of(cases, worlds)
        self.worlds = worlds
        rows = [comparisons_of_case(lot, answer) for lot, answer in self.cases]
        self.comparisons = tuple([entry for row in rows for entry in row])
        self.sources = tuple([number for number, row in enumerate(rows) for _ in row])

    def given_by(self, rank):
        """Return whether the rank gives the cases."""
        check_same_worlds(self, rank)
        return all([rank.best(lot) == answer for lot, answer in self.cases])

    def with_case(self, lot, answer):
        """Return these told cases with one more behind them."""
        asked = lot_of(lot, self.worlds, empty=False)
        answered = lot_of(answer, self.worlds, empty=False)
        if not inside(answered, asked):
            raise BadLot(-1)
        return Told(self.worlds, self.cases + ((asked, answered),))

    def __eq__(self, other):
        return isinstance(other, Told) and self.worlds == other.worlds and self.cases == other.cases

    def __len__(self):
        return len(self.cases)

    def __iter__(self):
        return iter(self.cases)


def told_of(table, family):
    """Return the cases of the table for the lots of the family, in its order."""
    lots = family_of(family, table.worlds, MOST_CASES)
    return Told(table.worlds, [(lot, table.answer(lot)) for lot in lots])
