"""Distances behind pair tables, and what can be nearest."""

from newsbooks.cases import comparisons_of_case
from newsbooks.distances import check_ranks, distance_of, ranked_comparisons
from newsbooks.lots import books_inside, lot_of
from newsbooks.worldpairs import apart_comparisons, least_levels_of, pair_of, ring_of_pairs


def gaps_to(table, world, book):
    """Return the pairs of the world with the worlds of the book that are nearest to it by the table."""
    return [pair_of(world, near) for near in table.changed((world,), book)]


def comparisons_at(table, book, news):
    """Return the list of the comparisons that the pair table makes for the book and the news."""
    answer = table.changed(book, news)
    gaps = {world: gaps_to(table, world, book) for world in news}
    pairs = [(one, other) for one in answer for other in news]
    return [(left, "<=" if other in answer else "<", right)
            for one, other in pairs for left in gaps[one] for right in gaps[other]]


def put_comparisons(table):
    """Return the comparisons of the pair table, ascending, each once."""
    found = apart_comparisons(table.worlds)
    for book, news in table.by_lots:
        found.extend(comparisons_at(table, book, news))
    kept = {(left, sign, right): True for left, sign, right in found if sign == "<" or left != right}
    return tuple(sorted(list(kept)))


def put_ring(table):
    """Return a ring with the fewest of the comparisons of the pair table, or None."""
    comparisons = put_comparisons(table)
    ring = ring_of_pairs(table.worlds, comparisons)
    return None if ring is None else tuple([comparisons[place] for place in ring])


def distance_behind(table):
    """Return a distance that puts in by the pair table, or None."""
    levels = least_levels_of(table.worlds, put_comparisons(table))
    # No pair of unlike worlds is on the level of the pairs of each world with itself, which is 0.
    return None if levels is None else distance_of(table.worlds, levels)


def could_be_nearest(ranks, book, news):
    """Return all lots that are nearest to the book by some distance with these ranks, in lot order."""
    check_ranks(ranks)
    near = lot_of(book, len(ranks), empty=False)
    asked = lot_of(news, len(ranks), empty=False)
    # The rank of a world tells which of the book is nearest to it, so there is one pair to compare for each world.
    gaps = {world: pair_of(world, ranks[world].best(near)[0]) for world in asked}
    told = ranked_comparisons(ranks)
    found = []
    for lot in books_inside(asked):
        more = [(gaps[left], sign, gaps[right]) for left, sign, right in comparisons_of_case(asked, lot)]
        if least_levels_of(len(ranks), told + more) is not None:
            found.append(lot)
    return tuple(found)


def must_be_nearest(ranks, book, news):
    """Return the only lot that is nearest to the book by some distance with these ranks, or None."""
    found = could_be_nearest(ranks, book, news)
    return found[0] if len(found) == 1 else None
