"""Directed distances, the ranks that they give groups of books, and ranks of weights."""

from newsbooks.checks import check_world, is_integer, is_row, is_within
from newsbooks.distances import is_same_both_ways, ways_fault
from newsbooks.errors import BadDistance, BadFamily, BadNumber
from newsbooks.folds import news_of
from newsbooks.groups import GroupTable, group_of
from newsbooks.lots import is_book, lot_of
from newsbooks.ranks import Rank

MOST_SUMMED = 7
MOST_WEIGHTS = 12
HEAVIEST = 10 ** 9


class Directed:
    """A directed distance: a way from each world to each world, told by rows."""

    def __init__(self, rows):
        place = ways_fault(rows)
        if place is not None:
            raise BadDistance(place)
        self.worlds = len(rows)
        self.rows = tuple([tuple(row) for row in rows])

    def far(self, book, world):
        """Return the least of the ways from the worlds of the book to the world."""
        near = lot_of(book, self.worlds, empty=False)
        check_world(world, self.worlds, "world")
        return min([self.rows[here][world] for here in near])

    def is_even(self):
        """Return whether each two worlds have the same way both ways."""
        return is_same_both_ways(self.rows)


def ways_to(directed, group):
    """Return for each world the list of the ways from the books of the group."""
    books = group_of(group, directed.worlds)
    return [[directed.far(book, world) for book in books] for world in range(directed.worlds)]


def sums_rank(directed, group):
    """Return the rank of the sums of the group."""
    return Rank.of_levels([sum(ways) for ways in ways_to(directed, group)])


def worsts_rank(directed, group):
    """Return the rank of the worsts of the group."""
    return Rank.of_levels([max(ways) for ways in ways_to(directed, group)])


def unlike_books(books, worlds):
    """Return the books, which are unlike, as a list of ascending tuples."""
    if not is_row(books) or len(books) > MOST_SUMMED:
        raise BadFamily(-1)
    found = []
    for place, book in enumerate(books):
        if not is_book(book, worlds) or tuple(sorted(book)) in found:
            raise BadFamily(place)
        found.append(tuple(sorted(book)))
    return found


def small_groups(directed, books):
    """Return the list of all groups of one and of two of the books, a book twice too."""
    told = unlike_books(books, directed.worlds)
    pairs = [(book, other) for place, book in enumerate(told) for other in told[place:]]
    return [(book,) for book in told] + pairs


def sums_table(directed, books):
    """Return the group table of the sums of all groups of one and of two of the books."""
    groups = small_groups(directed, books)
    return GroupTable(directed.worlds, [(group, sums_rank(directed, group)) for group in groups])


def worsts_table(directed, books):
    """Return the group table of the worsts of all groups of one and of two of the books."""
    groups = small_groups(directed, books)
    return GroupTable(directed.worlds, [(group, worsts_rank(directed, group)) for group in groups])


def are_weights(value):
    """Return whether this is a row of weights."""
    if not is_row(value) or not 1 <= len(value) <= MOST_WEIGHTS:
        return False
    return all([is_within(weight, -HEAVIEST, HEAVIEST) for weight in value])


def check_weights(first, second):
    """Refuse all but two rows of as many weights."""
    if not are_weights(first):
        raise BadNumber("first")
    if not are_weights(second) or len(second) != len(first):
        raise BadNumber("second")


def weighted(first, second, times):
    """Return the rank of so many times the first weights and once the second ones."""
    check_weights(first, second)
    if not is_integer(times) or times < 0:
        raise BadNumber("times")
    return Rank.of_levels([times * one + other for one, other in zip(first, second)])


def times_needed(first, second):
    """Return how many times, at least, the first weights outweigh the second ones."""
    check_weights(first, second)
    needed = 1
    for one, two in zip(first, second):
        for other, against in zip(first, second):
            if one < other:
                needed = max(needed, (two - against) // (other - one) + 1)
    return needed


def news_numbers(news, worlds):
    """Return for each world the sum of 2 ** place over the news that it is not in."""
    row = list(enumerate(news_of(news, worlds)))
    return tuple([sum([1 << place for place, piece in row if world not in piece]) for world in range(worlds)])
