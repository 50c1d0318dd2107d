"""Wishes about what a rank becomes when news come in."""

from newsbooks.checks import check_same_worlds
from newsbooks.errors import TooMany
from newsbooks.lots import books_inside, every, inside, lot_of, meets, minus, rest_of
from newsbooks.wishes import check_known

MOST_WISHED = 8

# The lots here: asked is any lot, news what came in, front the best of the news in the first rank,
# old and new the best of what is asked in the first rank and in the next one.


def fails_within(asked, news, front, old, new):
    """Return whether the best of a lot inside the news is another one."""
    return inside(asked, news) and new != old


def fails_without(asked, news, front, old, new):
    """Return whether the best of a lot outside the news is another one."""
    return not meets(asked, news) and new != old


def fails_stays(asked, news, front, old, new):
    """Return whether the best of a lot was inside the news and is not now."""
    return inside(old, news) and not inside(new, news)


def fails_keeps_level(asked, news, front, old, new):
    """Return whether the best of a lot met the news and does not now."""
    return meets(old, news) and not meets(new, news)


def fails_gains(asked, news, front, old, new):
    """Return whether the best of a lot met the news and is not inside it now."""
    return meets(old, news) and not inside(new, news)


def fails_all_ahead(asked, news, front, old, new):
    """Return whether a lot meets the news and its best is not inside it."""
    return meets(asked, news) and not inside(new, news)


def fails_only_best(asked, news, front, old, new):
    """Return whether the best of a lot without the front is another one."""
    return not meets(asked, front) and new != old


def fails_only_ties(asked, news, front, old, new):
    """Return whether the best of a lot without the front, outside the news before, meets them now."""
    return not meets(asked, front) and not meets(old, news) and meets(new, news)


TURN_WISHES = ("within", "without", "stays", "keeps level", "gains", "all ahead", "only best", "only ties")

TURN_FAILS = {
    "within": fails_within,
    "without": fails_without,
    "stays": fails_stays,
    "keeps level": fails_keeps_level,
    "gains": fails_gains,
    "all ahead": fails_all_ahead,
    "only best": fails_only_best,
    "only ties": fails_only_ties,
}


def turn_break(rank, lot, next_rank, wish):
    """Return the first lot, in lot order, that breaks the wish, or None."""
    news = lot_of(lot, rank.worlds, empty=False)
    check_known(wish, TURN_WISHES)
    check_same_worlds(rank, next_rank)
    if rank.worlds > MOST_WISHED:
        raise TooMany(MOST_WISHED)
    front = rank.best(news)
    fails = TURN_FAILS[wish]
    for asked in books_inside(every(rank.worlds)):
        if fails(asked, news, front, rank.best(asked), next_rank.best(asked)):
            return asked
    return None


def stands_to(rank, one, other):
    """Return -1, 0 or 1 if one is before other, alike with it or behind it."""
    step = rank.levels[one] - rank.levels[other]
    return (step > 0) - (step < 0)


def shape_stays(was, now):
    """Return whether a world of the news that was before another one stays so."""
    return was >= 0 or now < 0


def shape_keeps_level(was, now):
    """Return whether a world of the news that was not behind another one is not behind it now."""
    return was > 0 or now <= 0


def shape_gains(was, now):
    """Return whether a world of the news that was not behind another one is before it now."""
    return was > 0 or now < 0


def shape_all_ahead(was, now):
    """Return whether a world of the news is before another one now."""
    return now < 0


def shape_only_ties(was, now):
    """Return whether a world of the news that was behind another one stays so."""
    return was <= 0 or now > 0


SHAPES = {
    "stays": shape_stays,
    "keeps level": shape_keeps_level,
    "gains": shape_gains,
    "all ahead": shape_all_ahead,
    "only ties": shape_only_ties,
}


def same_order(rank, next_rank, lot):
    """Return whether both ranks order any two worlds of the lot in the same way."""
    return all([stands_to(rank, x, y) == stands_to(next_rank, x, y) for x in lot for y in lot])


def shape_holds(rank, news, next_rank, wish):
    """Return whether the next rank has the shape of the wish, for arguments that are right."""
    rest = rest_of(news, rank.worlds)
    front = rank.best(news)
    if wish == "within":
        return same_order(rank, next_rank, news)
    if wish == "without":
        return same_order(rank, next_rank, rest)
    if wish == "only best":
        return same_order(rank, next_rank, rest_of(front, rank.worlds))
    shape = SHAPES[wish]
    bound = minus(news, front) if wish == "only ties" else news
    return all([shape(stands_to(rank, x, y), stands_to(next_rank, x, y)) for x in bound for y in rest])


def has_shape(rank, lot, next_rank, wish):
    """Return whether the next rank has the shape of the wish."""
    news = lot_of(lot, rank.worlds, empty=False)
    check_known(wish, TURN_WISHES)
    check_same_worlds(rank, next_rank)
    return shape_holds(rank, news, next_rank, wish)


def begins_best(rank, lot, next_rank):
    """Return whether the first cell of the next rank is the best of the news."""
    front = rank.best(lot)
    check_same_worlds(rank, next_rank)
    return next_rank.held == front


def is_next(rank, lot, next_rank):
    """Return whether this is a next rank by the news."""
    if not begins_best(rank, lot, next_rank):
        return False
    return all([shape_holds(rank, lot, next_rank, wish) for wish in ("within", "without", "stays", "keeps level")])
