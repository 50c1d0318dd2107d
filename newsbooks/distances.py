"""Distances between worlds, and the ranks that they give each world."""

from newsbooks.chains import closes
from newsbooks.checks import check_world, is_row, is_within
from newsbooks.errors import BadDistance, BadRank, TooMany
from newsbooks.lots import books_inside, every, lot_of
from newsbooks.moving import moving_of
from newsbooks.pairtables import MOST_PAIRED, PairTable
from newsbooks.ranks import Rank
from newsbooks.tables import Table
from newsbooks.worldpairs import apart_comparisons, least_levels_of, pair_of, ring_of_pairs

MOST_APART = 5
FARTHEST = 10 ** 9


def is_way_row(row, place, many):
    """Return whether this is a row of so many numbers, 0 at its own place alone."""
    if not is_row(row) or len(row) != many:
        return False
    if not all([is_within(number, 0, FARTHEST) for number in row]):
        return False
    return all([(number == 0) == (at == place) for at, number in enumerate(row)])


def ways_fault(rows):
    """Return the place that BadDistance names for the rows of a distance, of any kind of ways, or None."""
    if not is_row(rows) or not 1 <= len(rows) <= MOST_APART:
        return -1
    for place, row in enumerate(rows):
        if not is_way_row(row, place, len(rows)):
            return place
    return None


def is_same_both_ways(rows):
    """Return whether each two worlds have the same number both ways."""
    return all([number == rows[other][one] for one, row in enumerate(rows) for other, number in enumerate(row)])


class Distance:
    """A distance: a number for each two worlds, told by rows."""

    def __init__(self, rows):
        place = ways_fault(rows)
        if place is not None:
            raise BadDistance(place)
        if not is_same_both_ways(rows):
            raise BadDistance(len(rows))
        self.worlds = len(rows)
        self.rows = tuple([tuple(row) for row in rows])

    def between(self, one, other):
        """Return the distance of two worlds."""
        check_world(one, self.worlds, "one")
        check_world(other, self.worlds, "other")
        return self.rows[one][other]

    def nearest(self, book, news):
        """Return the worlds of the news nearest to the book."""
        near = lot_of(book, self.worlds, empty=False)
        asked = lot_of(news, self.worlds, empty=False)
        gaps = {world: min([self.rows[world][here] for here in near]) for world in asked}
        least = min(list(gaps.values()))
        return tuple([world for world in asked if gaps[world] == least])

    def ranks(self):
        """Return the ranks of the distance, one for each world."""
        return tuple([Rank.of_levels(row) for row in self.rows])


def keeps_ways(distance):
    """Return whether no way over a third world is shorter."""
    rows = distance.rows
    worlds = every(distance.worlds)
    pairs = [(x, z) for x in worlds for z in worlds]
    return all([rows[x][z] <= rows[x][y] + rows[y][z] for x, z in pairs for y in worlds])


def put_by(distance):
    """Return the pair table of the worlds of the news nearest to the book."""
    if distance.worlds > MOST_PAIRED:
        raise TooMany(MOST_PAIRED)
    lots = books_inside(every(distance.worlds))
    return PairTable(distance.worlds, [(book, news, distance.nearest(book, news)) for book in lots for news in lots])


def move_by(distance):
    """Return the pair table of the worlds of the news nearest to the worlds of the book, each for itself."""
    # It is there that more worlds than pair tables have are refused.
    return moving_of([Table.of_rank(rank) for rank in distance.ranks()])


def check_ranks(ranks):
    """Refuse all but one rank for each of one to five worlds, which holds that world."""
    if not is_row(ranks) or not 1 <= len(ranks) <= MOST_APART:
        raise BadRank(-1)
    for place, rank in enumerate(ranks):
        if not isinstance(rank, Rank) or rank.worlds != len(ranks) or rank.held != (place,):
            raise BadRank(place)


def steps_of(ranks):
    """Return the list of the told steps, of two that differ in the sign alone the strict one, and none in place."""
    steps = []
    for world, rank in enumerate(ranks):
        others = [other for cell in rank.cells[1:] for other in cell]
        for one in others:
            for other in others:
                if one != other and rank.levels[one] <= rank.levels[other]:
                    sign = "<" if rank.levels[one] < rank.levels[other] else "<="
                    steps.append(((world, one), sign, (world, other)))
    return steps


def compared(steps):
    """Return the comparisons of pairs that the steps make."""
    return [(pair_of(*first), sign, pair_of(*second)) for first, sign, second in steps]


def ranked_comparisons(ranks):
    """Return the list of the comparisons of pairs that the distances with these ranks keep, and no others."""
    return apart_comparisons(len(ranks)) + compared(steps_of(ranks))


def distance_of(worlds, numbers):
    """Return the distance with these numbers, a dict of pairs."""
    return Distance([[numbers[pair_of(x, y)] for y in range(worlds)] for x in range(worlds)])


def one_distance(ranks):
    """Return a distance with these ranks that keeps all ways, or None."""
    check_ranks(ranks)
    levels = least_levels_of(len(ranks), ranked_comparisons(ranks))
    if levels is None:
        return None
    # With all numbers from the greatest level up to less than twice of it, no way over a third world is shorter.
    most = max(list(levels.values()))
    return distance_of(len(ranks), {pair: most + level - 1 if level else 0 for pair, level in levels.items()})


def distance_ring(ranks):
    """Return a distance ring with the fewest steps, or None."""
    check_ranks(ranks)
    steps = steps_of(ranks)
    ring = ring_of_pairs(len(ranks), compared(steps))
    return None if ring is None else tuple([steps[place] for place in ring])


def is_pair_from(pair, worlds):
    """Return whether this is a pair of two unlike worlds."""
    if not is_row(pair) or len(pair) != 2 or not all([is_within(world, 0, worlds - 1) for world in pair]):
        return False
    return pair[0] != pair[1]


def is_told_step(ranks, step):
    """Return whether the ranks tell this step."""
    if not is_row(step) or len(step) != 3:
        return False
    first, sign, second = step
    if not is_pair_from(first, len(ranks)) or not is_pair_from(second, len(ranks)) or first[0] != second[0]:
        return False
    levels = ranks[first[0]].levels
    gap = levels[second[1]] - levels[first[1]]
    return (sign == "<" and gap > 0) or (sign == "<=" and gap >= 0)


def is_distance_ring(ranks, ring):
    """Return whether the ring is a distance ring of the ranks."""
    check_ranks(ranks)
    if not is_row(ring) or not all([is_told_step(ranks, step) for step in ring]):
        return False
    return closes(compared(ring))
