"""Wishes that a give-up table may have, and what answers them in tables of answers."""

from newsbooks.givings import kept_masks
from newsbooks.lots import common, inside, meets
from newsbooks.masks import mask_of
from newsbooks.wishes import check_known

# Here lots are masks, and kept is the list that has at each lot but W what is held when it is given up.
# A wish about one lot is broken only by a pair of equal lots.


def fails_hold(kept, one, other):
    """Return whether something held is lost."""
    return one == other and kept[0] & ~kept[one] != 0


def fails_stand(kept, one, other):
    """Return whether giving up what is not held changes what is held."""
    return one == other and kept[0] & ~one != 0 and kept[one] != kept[0]


def fails_yield(kept, one, other):
    """Return whether a lot is still held when it is given up."""
    return one == other and kept[one] & ~one == 0


def fails_regain(kept, one, other):
    """Return whether a world of the lot comes in when the lot is given up."""
    return one == other and kept[one] & one & ~kept[0] != 0


def fails_part(kept, one, other):
    """Return whether giving up the common part brings in what giving up neither lot does."""
    return kept[one & other] & ~(kept[one] | kept[other]) != 0


def fails_take(kept, one, other):
    """Return whether the common part is given up by way of one lot, but less comes in than for that lot."""
    return kept[one & other] & ~one != 0 and kept[one] & ~kept[one & other] != 0


def fails_rise(kept, one, other):
    """Return whether giving up a greater lot brings in less."""
    return one & ~other == 0 and kept[one] & ~kept[other] != 0


GIVE_WISHES = ("hold", "stand", "yield", "regain", "part", "take", "rise")

FAILS = {
    "hold": fails_hold,
    "stand": fails_stand,
    "yield": fails_yield,
    "regain": fails_regain,
    "part": fails_part,
    "take": fails_take,
    "rise": fails_rise,
}


def give_break(giving, wish):
    """Return the first pair of lots for which the wish is not so, or None."""
    check_known(wish, GIVE_WISHES)
    fails = FAILS[wish]
    kept = kept_masks(giving)
    lots = [(lot, mask_of(lot)) for lot, _ in giving.pairs]
    for lot, one in lots:
        for second, other in lots:
            if fails(kept, one, other):
                return (lot, second)
    return None


def has_give(giving, wish):
    """Return whether the give-up table has the wish."""
    return give_break(giving, wish) is None


def keeps_tied(table):
    """Return whether the answer to each lot that meets what is held is its common part with that."""
    return all([answer == common(table.held, lot) for lot, answer in table.pairs if meets(lot, table.held)])


def half_arrow(table):
    """Return the first pair of a lesser and a greater lot for which half arrow fails, or None."""
    for lot, answer in table.pairs:
        for whole, first in table.pairs:
            if inside(lot, whole) and meets(first, lot) and not inside(answer, first):
                return (lot, whole)
    return None
