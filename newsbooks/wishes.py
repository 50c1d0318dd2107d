"""Wishes that a table may have, and the kinds of tables."""

from newsbooks.errors import BadWord
from newsbooks.masks import mask_of
from newsbooks.tables import answer_masks

# Here lots are masks, and answers is the list that has at each lot its answer.


def breaks_heritage(answers, one, other):
    """Return whether a world of the greater lot's answer is lost in the lesser lot."""
    return one & ~other == 0 and answers[other] & one & ~answers[one] != 0


def breaks_unite(answers, one, other):
    """Return whether a world of both answers is not in the answer to the union."""
    return answers[one] & answers[other] & ~answers[one | other] != 0


def breaks_outcast(answers, one, other):
    """Return whether leaving out worlds outside the answer brings other worlds in."""
    return one & ~other == 0 and answers[other] & ~one == 0 and answers[one] & ~answers[other] != 0


def breaks_cross(answers, one, other):
    """Return whether each of the lots has an answered world that the other lot has and does not answer."""
    return answers[one] & other & ~answers[other] != 0 and answers[other] & one & ~answers[one] != 0


def breaks_arrow(answers, one, other):
    """Return whether the greater lot's answer meets the lesser lot and is not its answer there."""
    both = answers[other] & one
    return one & ~other == 0 and both != 0 and answers[one] != both


def breaks_single(answers, one, other):
    """Return whether the two lots are one lot whose answer has two worlds or more."""
    return one == other and answers[one] & (answers[one] - 1) != 0


WISHES = ("heritage", "unite", "outcast", "cross", "arrow", "single")

BREAKS = {
    "heritage": breaks_heritage,
    "unite": breaks_unite,
    "outcast": breaks_outcast,
    "cross": breaks_cross,
    "arrow": breaks_arrow,
    "single": breaks_single,
}

KINDS = ("ringless", "orders", "parts", "stretches", "rank", "strict")

NEEDS = {
    "ringless": ("heritage", "unite"),
    "orders": ("heritage", "outcast"),
    "parts": ("heritage", "unite", "outcast"),
    "stretches": ("heritage", "unite", "outcast", "cross"),
    "rank": ("arrow",),
    "strict": ("heritage", "single"),
}


def check_known(word, known):
    """Refuse all but the known words."""
    if not isinstance(word, str) or word not in known:
        raise BadWord(word)


def first_break(table, wish):
    """Return the first pair of lots that breaks the wish, or None."""
    check_known(wish, WISHES)
    breaks = BREAKS[wish]
    answers = answer_masks(table)
    lots = [(lot, mask_of(lot)) for lot, _ in table.pairs]
    for lot, one in lots:
        for second, other in lots:
            if breaks(answers, one, other):
                return (lot, second)
    return None


def has_wish(table, wish):
    """Return whether no pair of lots breaks the wish."""
    return first_break(table, wish) is None


def is_kind(table, kind):
    """Return whether the table is of the kind."""
    check_known(kind, KINDS)
    return all([has_wish(table, wish) for wish in NEEDS[kind]])


def kinds_of(table):
    """Return the kinds of the table, in the order of KINDS."""
    had = [wish for wish in WISHES if has_wish(table, wish)]
    return tuple([kind for kind in KINDS if all([wish in had for wish in NEEDS[kind]])])
