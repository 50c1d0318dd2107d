"""Groups of books, and tables that give each of some groups a rank."""

from newsbooks.checks import check_worlds, is_row
from newsbooks.errors import BadGroup, TooMany
from newsbooks.lots import is_book, lot_key
from newsbooks.ranks import Rank
from newsbooks.tables import MOST_TABLED

MOST_BOOKS = 4
MOST_GROUPS = 60


def group_fault(books, worlds):
    """Return the place that BadGroup names for these books, or None if they are a group."""
    if not is_row(books) or not 1 <= len(books) <= MOST_BOOKS:
        return -1
    for place, book in enumerate(books):
        if not is_book(book, worlds):
            return place
    return None


def in_order(books):
    """Return the tuple of the books in lot order, each as often as it is there."""
    return tuple(sorted([tuple(sorted(book)) for book in books], key=lot_key))


def group_of(books, worlds):
    """Return the group of the books."""
    check_worlds(worlds)
    place = group_fault(books, worlds)
    if place is not None:
        raise BadGroup(place)
    return in_order(books)


def both_groups(one, other):
    """Return the books of two groups together, in lot order."""
    return in_order(list(one) + list(other))


def group_key(group):
    """Return what group order goes by."""
    return (len(group), [lot_key(book) for book in group])


def is_ranked(entry, worlds, taken):
    """Return whether the entry is a pair of a group that was not taken and a rank of these worlds."""
    if not is_row(entry) or len(entry) != 2:
        return False
    group, rank = entry
    if group_fault(group, worlds) is not None or not isinstance(rank, Rank):
        return False
    return rank.worlds == worlds and in_order(group) not in taken


def ranks_by_group(worlds, ranks):
    """Return the ranks as a dict of groups."""
    if not is_row(ranks):
        raise BadGroup(-1)
    found = {}
    for place, entry in enumerate(ranks):
        if not is_ranked(entry, worlds, found):
            raise BadGroup(place)
        group, rank = entry
        found[in_order(group)] = rank
    if len(ranks) > MOST_GROUPS:
        raise TooMany(MOST_GROUPS)
    return found


class GroupTable:
    """A group table: some groups of books, each with a rank."""

    def __init__(self, worlds, ranks):
        check_worlds(worlds, MOST_TABLED)
        self.by_group = ranks_by_group(worlds, ranks)
        self.worlds = worlds
        self.groups = tuple(sorted(list(self.by_group), key=group_key))

    def rank_of(self, group):
        """Return the rank of a told group."""
        if group_fault(group, self.worlds) is not None or in_order(group) not in self.by_group:
            raise BadGroup(-1)
        return self.by_group[in_order(group)]

    def best_of(self, group, lot):
        """Return the best of the lot in the rank of a told group."""
        return self.rank_of(group).best(lot)
