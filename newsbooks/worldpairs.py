"""Pairs of worlds, whose distances are compared as worlds are in a rank.

Each pair has a number, and chains and ranks of the numbers serve for the pairs: at most five worlds are asked about,
which have fewer pairs than there may be worlds in a rank.
"""

from newsbooks.chains import ring_of
from newsbooks.keeping import least_rank

SAME = (0, 0)


def pair_of(one, other):
    """Return the pair of two worlds, the lesser one first, or the one pair of each world with itself."""
    return SAME if one == other else (min(one, other), max(one, other))


def pairs_in(worlds):
    """Return the list of all pairs, that of each world with itself first."""
    return [SAME] + [(one, other) for one in range(worlds) for other in range(one + 1, worlds)]


def apart_comparisons(worlds):
    """Return the list of the comparisons that make unlike worlds lie apart."""
    return [(SAME, "<", pair) for pair in pairs_in(worlds)[1:]]


def by_numbers(worlds, comparisons):
    """Return the comparisons with the numbers of their pairs."""
    pairs = pairs_in(worlds)
    return [(pairs.index(left), sign, pairs.index(right)) for left, sign, right in comparisons]


def ring_of_pairs(worlds, comparisons):
    """Return the places of a ring with the fewest of the comparisons, or None."""
    return ring_of(len(pairs_in(worlds)), by_numbers(worlds, comparisons))


def least_levels_of(worlds, comparisons):
    """Return the level of each pair in the least rank of pairs that keeps the comparisons, as a dict, or None."""
    pairs = pairs_in(worlds)
    rank = least_rank(len(pairs), by_numbers(worlds, comparisons))
    return None if rank is None else {pair: level for pair, level in zip(pairs, rank.levels)}
