"""The peel of two ranks by a family of lots: whether rows of news over the family lead one to the other."""

from newsbooks.checks import check_same_worlds, is_integer, is_row
from newsbooks.errors import BadNumber, TooMany
from newsbooks.families import family_of
from newsbooks.lots import common, every, in_lot_order, inside, meets, minus, parting_fault
from newsbooks.turning import led, parts_in, parts_out
from newsbooks.turnwishes import same_order, stands_to

MOST_TRIED = 4


def cuts(lot, piece):
    """Return whether the lot has some of the worlds of the piece and not all."""
    return meets(piece, lot) and not inside(piece, lot)


def first_hindrance(goal, lot, pieces):
    """Return the least pair of worlds for which the lot is not begun in all pieces, or None."""
    pairs = [(u, v) for piece in pieces for u in common(piece, lot) for v in minus(piece, lot)]
    return min([(u, v) for u, v in pairs if goal.levels[u] >= goal.levels[v]], default=None)


def next_taken(goal, lots, pieces):
    """Return the least place whose lot cuts some piece and is begun in all, or None."""
    for place, lot in enumerate(lots):
        if any([cuts(lot, piece) for piece in pieces]) and first_hindrance(goal, lot, pieces) is None:
            return place
    return None


class Peel:
    """The peel of a rank, its goal and a family."""

    def __init__(self, rank, goal, family):
        self.family = family_of(family, rank.worlds)
        check_same_worlds(rank, goal)
        pieces = [every(rank.worlds)]
        taken = []
        place = next_taken(goal, self.family, pieces)
        while place is not None:
            taken.append(place)
            lot = self.family[place]
            pieces = parts_in(pieces, lot) + parts_out(pieces, lot)
            place = next_taken(goal, self.family, pieces)
        self.rank = rank
        self.goal = goal
        self.taken = tuple(taken)
        self.pieces = in_lot_order(pieces)

    def leads(self):
        """Return whether the family leads the rank to the goal."""
        return all([same_order(self.rank, self.goal, piece) for piece in self.pieces])

    def news(self):
        """Return a row over the family that leads the rank to the goal, or None."""
        return tuple([self.family[place] for place in self.taken[::-1]]) if self.leads() else None


def ordered_alike(rank, goal, pair):
    """Return whether both ranks order the two worlds in the same way."""
    one, other = pair
    return stands_to(rank, one, other) == stands_to(goal, one, other)


def peel_paper(rank, goal, family):
    """Return a paper that shows why no row over the family leads the rank to the goal, or None if one does."""
    peel = Peel(rank, goal, family)
    if peel.leads():
        return None
    pairs = [(x, y) for piece in peel.pieces for x in piece for y in piece if x < y]
    unlike = [pair for pair in pairs if not ordered_alike(rank, goal, pair)]
    # At the end of the peel a lot that cuts a piece is not begun in all: else it would have been taken.
    hindrances = [first_hindrance(goal, lot, peel.pieces) for lot in peel.family]
    return (peel.pieces, min(unlike), tuple(hindrances))


def is_pair_in(pair, pieces):
    """Return whether this is a pair of worlds of one of the pieces."""
    if not is_row(pair) or len(pair) != 2 or not all([is_integer(world) for world in pair]):
        return False
    return any([inside(pair, piece) for piece in pieces])


def is_hindrance(goal, lot, pieces, told):
    """Return whether this is what a paper tells of the lot."""
    if told is None:
        return not any([cuts(lot, piece) for piece in pieces])
    if not is_pair_in(told, pieces):
        return False
    first, second = told
    return first in lot and second not in lot and goal.levels[first] >= goal.levels[second]


def is_peel_paper(rank, goal, family, paper):
    """Return whether this is a paper against the rank, the goal and the family."""
    lots = family_of(family, rank.worlds)
    check_same_worlds(rank, goal)
    if not is_row(paper) or len(paper) != 3:
        return False
    pieces, pair, hindrances = paper
    if parting_fault(pieces, rank.worlds) is not None:
        return False
    if not is_pair_in(pair, pieces) or ordered_alike(rank, goal, pair):
        return False
    if not is_row(hindrances) or len(hindrances) != len(lots):
        return False
    return all([is_hindrance(goal, lot, pieces, told) for lot, told in zip(lots, hindrances)])


def leads_any_way(rank, goal, family, length):
    """Return the least of the shortest rows of at most so many pieces that lead, as places of the family, or None."""
    lots = family_of(family, rank.worlds)
    if not is_integer(length) or length < 0:
        raise BadNumber("length")
    check_same_worlds(rank, goal)
    if len(lots) > MOST_TRIED or length > MOST_TRIED:
        raise TooMany(MOST_TRIED)
    rows = [((), rank)]
    for _ in range(length + 1):
        for places, after in rows:
            if after == goal:
                return places
        rows = [(places + (place,), led(after, lot)) for places, after in rows for place, lot in enumerate(lots)]
    return None
