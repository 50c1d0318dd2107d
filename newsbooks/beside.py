"""Ranks that order the values of some facts and those of the others beside each other."""

from newsbooks.checks import check_same_worlds, is_row
from newsbooks.errors import BadDeed, BadNews, TooMany
from newsbooks.folds import MOST_NEWS, led_row
from newsbooks.journals import MOST_ENTRIES, is_deed_pair
from newsbooks.lots import common, is_book
from newsbooks.narrowing import Narrowing, met, spread
from newsbooks.splitting import full_facts, other_facts
from newsbooks.turning import turned
from newsbooks.turnwishes import stands_to


def narrowed_on(facts, rank, some):
    """Return the rank narrowed to the slices of the facts."""
    narrow = Narrowing(facts.alike_classes(some), facts.worlds)
    return narrow(rank)


def narrowed_to(facts, rank, some):
    """Return the rank narrowed to the set of facts."""
    return narrowed_on(facts, rank, full_facts(facts, some))


def part_with(parts, world):
    """Return the part that has the world."""
    return [part for part in parts if world in part][0]


def squares(facts, some):
    """Return the list of all (x, y, u, v), ascending, with x, y in one slice of the facts and u, v in another one.

    x and u are alike on the other facts, and so are y and v.
    """
    slices = facts.alike_classes(some)
    across = facts.alike_classes(other_facts(facts, some))
    found = []
    for x in range(facts.worlds):
        for y in part_with(slices, x):
            for u in part_with(across, x):
                if u != x:
                    found.append((x, y, u, common(part_with(slices, u), part_with(across, y))[0]))
    return found


def beside_break(facts, rank, some):
    """Return the least four worlds for which the rank is not beside on the facts, or None."""
    chosen = full_facts(facts, some)
    check_same_worlds(facts, rank)
    for x, y, u, v in squares(facts, chosen) + squares(facts, other_facts(facts, chosen)):
        if stands_to(rank, x, y) != stands_to(rank, u, v):
            return (x, y, u, v)
    return None


def beside(facts, rank, some):
    """Return whether the rank is beside on the facts."""
    return beside_break(facts, rank, some) is None


def check_news(facts, some, news):
    """Refuse all but a sequence of books, each told by the facts or by the others."""
    if not is_row(news):
        raise BadNews(-1)
    others = other_facts(facts, some)
    for place, piece in enumerate(news):
        if not is_book(piece, facts.worlds):
            raise BadNews(place)
        if not facts.told_by(piece, some) and not facts.told_by(piece, others):
            raise BadNews(place)


def held_by_store(facts, rank, some, news):
    """Return the worlds in the slices that the rank narrowed to the facts holds, led by the news that they tell."""
    slices = facts.alike_classes(some)
    row = [met(slices, piece) for piece in news if facts.told_by(piece, some)]
    return spread(slices, led_row(narrowed_on(facts, rank, some), row).held)


def two_stores(facts, rank, some, news):
    """Return what two stores hold behind the news, one for the facts and one for the others."""
    chosen = full_facts(facts, some)
    check_news(facts, chosen, news)
    check_same_worlds(facts, rank)
    if len(news) > MOST_NEWS:
        raise TooMany(MOST_NEWS)
    # W alone is told both by the facts and by the others, and to be led by it changes neither store.
    mine = held_by_store(facts, rank, chosen, news)
    return common(mine, held_by_store(facts, rank, other_facts(facts, chosen), news))


def check_deeds(facts, some, deeds):
    """Refuse all but a sequence of deeds of a rank with lots that the facts tell."""
    if not is_row(deeds):
        raise BadDeed(-1)
    for place, entry in enumerate(deeds):
        if not is_deed_pair(entry, facts.worlds):
            raise BadDeed(place)
        word, lot = entry
        if word == "back" or not facts.told_by(lot, some):
            raise BadDeed(place)


def run_about(facts, rank, some, deeds):
    """Return the rank narrowed to the facts and turned by the deeds."""
    chosen = full_facts(facts, some)
    check_deeds(facts, chosen, deeds)
    check_same_worlds(facts, rank)
    if len(deeds) > MOST_ENTRIES:
        raise TooMany(MOST_ENTRIES)
    slices = facts.alike_classes(chosen)
    after = narrowed_on(facts, rank, chosen)
    for word, lot in deeds:
        after = turned(after, word, met(slices, lot))
    return after
