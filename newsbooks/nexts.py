"""The next ranks by some news: listed, counted, and what they can hold."""

from newsbooks.errors import TooMany
from newsbooks.firsts import count_keeping, rows_of_cells
from newsbooks.lots import common, in_lot_order, inside, lot_of, meets, minus, plus, rest_of
from newsbooks.ranks import Rank
from newsbooks.turning import check_put_word, turned
from newsbooks.turnwishes import MOST_WISHED


def comparisons_of_order(rank, ones, others):
    """Return the comparisons that keep how the rank orders each of ones and each of others."""
    levels = rank.levels
    strict = [(x, "<", y) for x in ones for y in others if levels[x] < levels[y]]
    return strict + [(x, "<=", y) for x in ones for y in others if x != y and levels[x] == levels[y]]


def comparisons_of_next(rank, news):
    """Return the list of comparisons that the next ranks by the news keep, and no other ranks."""
    rest = rest_of(news, rank.worlds)
    front = rank.best(news)
    back = rest_of(front, rank.worlds)
    begin = [(x, "<", y) for x in front for y in back]
    within = comparisons_of_order(rank, news, news) + comparisons_of_order(rank, rest, rest)
    return begin + within + comparisons_of_order(rank, news, rest)


def next_ranks(rank, lot):
    """Yield the next ranks, by their first cells in lot order, then by their second cells, and so on."""
    news = lot_of(lot, rank.worlds, empty=False)
    if rank.worlds > MOST_WISHED:
        raise TooMany(MOST_WISHED)
    for cells in rows_of_cells(rank.worlds, comparisons_of_next(rank, news)):
        yield Rank(cells)


def count_next(rank, lot):
    """Return the number of next ranks."""
    news = lot_of(lot, rank.worlds, empty=False)
    return count_keeping(rank.worlds, comparisons_of_next(rank, news))


def next_held(rank, lot, asked):
    """Return the lots that can be the best of what is asked in a next rank, in lot order."""
    news = lot_of(lot, rank.worlds, empty=False)
    about = lot_of(asked, rank.worlds, empty=False)
    front = rank.best(news)
    if meets(about, front):
        return (common(about, front),)
    if settled(news, about):
        return (rank.best(about),)
    mine = rank.best(common(news, about))
    other = rank.best(minus(about, news))
    step = rank.levels[mine[0]] - rank.levels[other[0]]
    if step < 0:
        return (mine,)
    lots = [mine, plus(mine, other)] + ([other] if step > 0 else [])
    return in_lot_order(lots)


def settled(lot, asked):
    """Return whether one of the lots is inside the other or they are disjoint."""
    return inside(lot, asked) or inside(asked, lot) or not meets(lot, asked)


def turns_alike(rank, lot, one, other):
    """Return whether the deeds of two words with this lot give the same rank."""
    news = lot_of(lot, rank.worlds, empty=False)
    check_put_word(one)
    check_put_word(other)
    return turned(rank, one, news) == turned(rank, other, news)
