"""Wishes about the ranks that groups of books are given."""

from newsbooks.groups import both_groups
from newsbooks.lots import books_inside, common, every, inside, meets, plus
from newsbooks.turnwishes import stands_to
from newsbooks.wishes import check_known

GROUP_WISHES = ("shared", "fair", "together", "agreed")


def common_book(group):
    """Return the common part of the books of the group, which may be empty."""
    part = group[0]
    for book in group[1:]:
        part = common(part, book)
    return part


def breaks_shared(table, group):
    """Return the lots, W if any, at which the rank of the group breaks "shared"."""
    part = common_book(group)
    whole = every(table.worlds)
    return [whole] if part and table.best_of(group, whole) != part else []


def breaks_fair(table, group):
    """Return the lots, in lot order, at which the rank of the group breaks "fair"."""
    if len(group) != 2:
        return []
    one, other = group
    lots = [lot for lot in books_inside(every(table.worlds)) if inside(plus(one, other), lot)]
    bests = [(lot, table.best_of(group, lot)) for lot in lots]
    return [lot for lot, best in bests if meets(best, one) != meets(best, other)]


def fails_together(one, other, both):
    """Return whether a world that is best by each of two groups is not best by both together."""
    return not inside(common(one, other), both)


def fails_agreed(one, other, both):
    """Return whether some worlds are best by each of two groups, and others by both together."""
    return meets(one, other) and not inside(both, common(one, other))


SINGLE_BREAKS = {"shared": breaks_shared, "fair": breaks_fair}
DOUBLE_FAILS = {"together": fails_together, "agreed": fails_agreed}


def single_break(table, wish):
    """Return the least break of a wish about one group, or None."""
    breaks = SINGLE_BREAKS[wish]
    for group in table.groups:
        lots = breaks(table, group)
        if lots:
            return (group, (), lots[0])
    return None


def told_pairs(table):
    """Return the list of all (E, F, E + F) that are told, by E and then by F in group order."""
    rows = [(one, other, both_groups(one, other)) for one in table.groups for other in table.groups]
    return [(one, other, both) for one, other, both in rows if both in table.by_group]


def double_break(table, wish):
    """Return the least break of a wish about two groups and both together, or None."""
    fails = DOUBLE_FAILS[wish]
    lots = books_inside(every(table.worlds))
    bests = {group: [table.best_of(group, asked) for asked in lots] for group in table.groups}
    for one, other, both in told_pairs(table):
        for place, lot in enumerate(lots):
            if fails(bests[one][place], bests[other][place], bests[both][place]):
                return (one, other, lot)
    return None


def group_break(table, wish):
    """Return the least break of the wish, or None."""
    check_known(wish, GROUP_WISHES)
    return single_break(table, wish) if wish in ("shared", "fair") else double_break(table, wish)


def shape_shared(table, group):
    """Return whether the common part of the books, if there is one, is the first cell."""
    part = common_book(group)
    return not part or table.rank_of(group).held == part


def shape_fair(table, group):
    """Return whether the best worlds of two books lie in one cell."""
    if len(group) != 2:
        return True
    rank = table.rank_of(group)
    one, other = group
    return stands_to(rank, rank.best(one)[0], rank.best(other)[0]) == 0


# Here first, second and both tell how a world stands to another one, as stands_to does: by the ranks of two groups
# and by that of both together.


def shape_together(first, second, both):
    """Return whether a world that is not behind by each of two groups is not behind by both."""
    return first > 0 or second > 0 or both <= 0


def shape_agreed(first, second, both):
    """Return whether a world that is not behind by each of two groups, and before by one, is before by both."""
    return first > 0 or second > 0 or first + second == 0 or both < 0


SINGLE_SHAPES = {"shared": shape_shared, "fair": shape_fair}
DOUBLE_SHAPES = {"together": shape_together, "agreed": shape_agreed}


def double_shape(table, wish):
    """Return whether the ranks of two groups and of both together always have the shape of the wish."""
    shape = DOUBLE_SHAPES[wish]
    pairs = [(x, y) for x in range(table.worlds) for y in range(table.worlds)]
    for groups in told_pairs(table):
        one, other, both = [table.rank_of(group) for group in groups]
        if not all([shape(stands_to(one, x, y), stands_to(other, x, y), stands_to(both, x, y)) for x, y in pairs]):
            return False
    return True


def group_shape(table, wish):
    """Return whether the ranks have the shape of the wish."""
    check_known(wish, GROUP_WISHES)
    if wish in ("together", "agreed"):
        return double_shape(table, wish)
    shape = SINGLE_SHAPES[wish]
    return all([shape(table, group) for group in table.groups])
