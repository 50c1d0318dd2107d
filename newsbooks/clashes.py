"""Wishes for pair tables that cannot be had at once, and the few cases that show it."""

from newsbooks.checks import is_within
from newsbooks.errors import BadNumber
from newsbooks.lots import plus
from newsbooks.pairtables import pair_breaks

CLASHES = (("both", "keep"), ("mono", "keep"), ("keep", "apart"))

CASES = (
    (((0,), (1, 2)), ((1,), (1, 2)), ((2,), (1, 2)), ((0, 1), (1, 2)), ((0, 2), (1, 2))),
    (((0,), (1, 2)), ((0, 1), (1, 2)), ((0, 2), (1, 2))),
    (((0, 1), (0,)), ((0, 1, 2), (0,)), ((0,), (1, 2)), ((0, 1), (1, 2)), ((0, 1, 2), (1, 2))),
)

LEAST_CLASHING = 3


def check_clash(clash):
    """Refuse all but the number of a clash."""
    if not is_within(clash, 0, len(CLASHES) - 1):
        raise BadNumber("clash")


def clash_cases(clash):
    """Return the cases of the clash with this number."""
    check_clash(clash)
    return CASES[clash]


def pairs_used(table, wish, lots):
    """Return the list of the pairs of a book and news whose lot the wish compares at these lots."""
    book, other, news, later = lots
    if wish == "both":
        return [(plus(book, other), news), (book, news), (other, news)]
    if wish == "mono":
        return [(book, news), (other, news)]
    if wish == "apart":
        return [(book, news), (table.changed(book, news), later), (book, later)]
    return [(book, news)]


def falls_within(table, wish, cases):
    """Return the least lots at which the wish falls within the cases, or None."""
    for lots in pair_breaks(table, wish):
        if all([pair in cases for pair in pairs_used(table, wish, lots)]):
            return lots
    return None


def clash_break(table, clash):
    """Return the first wish of the clash that falls within its cases, and the least lots at which it does."""
    cases = clash_cases(clash)
    if table.worlds < LEAST_CLASHING:
        raise BadNumber("worlds")
    first, second = CLASHES[clash]
    found = falls_within(table, first, cases)
    if found is not None:
        return (first,) + found
    # One of the two wishes always falls: if the first one does not, the second one does.
    return (second,) + falls_within(table, second, cases)
