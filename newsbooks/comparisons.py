"""Comparisons of two worlds, and the ranks that keep them."""

from newsbooks.checks import check_worlds, is_row, is_within
from newsbooks.errors import BadComparison, TooMany

MOST_COMPARISONS = 2000


def is_comparison(entry, worlds):
    """Return whether this is a comparison of two of the worlds."""
    if not is_row(entry) or len(entry) != 3:
        return False
    left, sign, right = entry
    if not isinstance(sign, str) or sign not in ("<", "<="):
        return False
    return is_within(left, 0, worlds - 1) and is_within(right, 0, worlds - 1)


def comparisons_of(comparisons, worlds):
    """Return the list of comparisons as a tuple of tuples."""
    check_worlds(worlds)
    if not is_row(comparisons):
        raise BadComparison(-1)
    for place, entry in enumerate(comparisons):
        if not is_comparison(entry, worlds):
            raise BadComparison(place)
    if len(comparisons) > MOST_COMPARISONS:
        raise TooMany(MOST_COMPARISONS)
    return tuple([tuple(entry) for entry in comparisons])


def first_broken(rank, comparisons):
    """Return the place of the first comparison that the rank does not keep, or None."""
    for place, (left, sign, right) in enumerate(comparisons_of(comparisons, rank.worlds)):
        step = rank.levels[right] - rank.levels[left]
        if step < 0 or (step == 0 and sign == "<"):
            return place
    return None


def keeps(rank, comparisons):
    """Return whether the rank keeps all comparisons of the list."""
    return first_broken(rank, comparisons) is None
