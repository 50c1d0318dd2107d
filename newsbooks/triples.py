"""Triples of lots (lot, other, answer), one for each lot and each other one: checked, and by their lots."""

from newsbooks.checks import is_row
from newsbooks.lots import inside, lot_fault


def is_answered(lot, other, answer, worlds):
    """Return whether none of the lots is empty and the answer is inside the other lot."""
    return len(lot) > 0 and len(answer) > 0 and inside(answer, other)


def is_triple(entry, worlds):
    """Return whether this is a triple of lots."""
    if not is_row(entry) or len(entry) != 3:
        return False
    return all([lot_fault(lot, worlds) is None for lot in entry])


def triple_fault(triples, worlds, allows):
    """Return the place that an error names for these triples, or None.

    Given three lots and the number of worlds, allows tells whether they may be a triple. It leaves as many lots, and
    as many other ones, as there are books.
    """
    if not is_row(triples):
        return -1
    taken = {}
    for place, entry in enumerate(triples):
        if not is_triple(entry, worlds):
            return place
        lot, other, answer = entry
        key = (tuple(sorted(lot)), tuple(sorted(other)))
        if key in taken or not allows(lot, other, answer, worlds):
            return place
        taken[key] = True
    books = (1 << worlds) - 1
    return len(triples) if len(taken) < books * books else None


def answers_by_lots(triples):
    """Return the answers as a dict of pairs of lots."""
    return {(tuple(sorted(lot)), tuple(sorted(other))): tuple(sorted(answer)) for lot, other, answer in triples}
