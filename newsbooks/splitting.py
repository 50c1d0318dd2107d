"""Lots that split on facts, their shares, and the finest partings of facts that fit them."""

from newsbooks.checks import is_row
from newsbooks.errors import BadFacts, BadNumber
from newsbooks.facts import facts_of, is_value_row
from newsbooks.lots import common, lot_of, lots_in_order, parting_fault
from newsbooks.narrowing import spread


def check_full(facts):
    """Refuse facts with barred rows."""
    if not facts.full:
        raise BadFacts(-1)


def full_facts(facts, some):
    """Return the set of facts as an ascending tuple, and refuse facts with barred rows ahead of all else."""
    check_full(facts)
    return facts_of(some, facts.many)


def other_facts(facts, some):
    """Return the set of the facts that are not among these."""
    return tuple([fact for fact in range(facts.many) if fact not in some])


def values_on(facts, world, some):
    """Return the row of the values of the world on these facts."""
    return tuple([facts.rows[world][fact] for fact in some])


def share_on(facts, lot, some):
    """Return the share of an ascending lot on an ascending set of facts."""
    return tuple(sorted(set([values_on(facts, world, some) for world in lot])))


def share(facts, lot, some):
    """Return the share of the lot on the set of facts."""
    check_full(facts)
    kept = lot_of(lot, facts.worlds)
    return share_on(facts, kept, facts_of(some, facts.many))


def parting_of(facts, parting):
    """Return the parting as a tuple of ascending sets of facts, in the order handed in."""
    place = parting_fault(parting, facts.many)
    if place is not None:
        raise BadFacts(place)
    return tuple([tuple(sorted(part)) for part in parting])


def is_share(facts, rows, part):
    """Return whether these are rows of values of the facts of the part."""
    counts = [facts.counts[fact] for fact in part]
    return is_row(rows) and all([is_value_row(row, counts) for row in rows])


def with_shares(facts, parts, shares):
    """Return the worlds whose values on each part are a row of its share."""
    lot = list(range(facts.worlds))
    for part, rows in zip(parts, shares):
        lot = [world for world in lot if values_on(facts, world, part) in rows]
    return tuple(lot)


def lot_of_shares(facts, parting, shares):
    """Return the lot of the shares."""
    check_full(facts)
    parts = parting_of(facts, parting)
    if not is_row(shares) or len(shares) != len(parts):
        raise BadNumber("shares")
    if not all([is_share(facts, rows, part) for rows, part in zip(shares, parts)]):
        raise BadNumber("shares")
    return with_shares(facts, parts, [[tuple(row) for row in rows] for rows in shares])


def splits(facts, lot, some):
    """Return whether an ascending lot splits on an ascending set of facts."""
    # It has each row of its share on these facts with each row of its share on the others, if not less.
    others = other_facts(facts, some)
    return len(lot) == len(share_on(facts, lot, some)) * len(share_on(facts, lot, others))


def splits_on(facts, lot, some):
    """Return whether the lot splits on the set of facts."""
    check_full(facts)
    kept = lot_of(lot, facts.worlds)
    return splits(facts, kept, facts_of(some, facts.many))


def finest_parting(facts, lot):
    """Return the finest parting that fits the lot, by the least facts of its parts."""
    check_full(facts)
    kept = lot_of(lot, facts.worlds)
    able = [some for some in lots_in_order(facts.many) if splits(facts, kept, some)]
    parts = []
    for fact in range(facts.many):
        part = tuple(range(facts.many))
        for some in able:
            if fact in some:
                part = common(part, some)
        if part not in parts:
            parts.append(part)
    return tuple(parts)


def parts_of(facts, lot):
    """Return the shares of the lot on the parts of its finest parting."""
    parts = finest_parting(facts, lot)
    kept = lot_of(lot, facts.worlds)
    return tuple([share_on(facts, kept, part) for part in parts])


def is_parting_of(facts, lot, parting):
    """Return whether the parting fits the lot."""
    check_full(facts)
    kept = lot_of(lot, facts.worlds)
    parts = parting_of(facts, parting)
    return with_shares(facts, parts, [share_on(facts, kept, part) for part in parts]) == kept


def told_lots(facts, some):
    """Yield the lots, not empty, that are told by the set of facts, by the numbers of their slices."""
    check_full(facts)
    slices = facts.alike_classes(some)
    for numbers in lots_in_order(len(slices)):
        if numbers:
            yield spread(slices, numbers)
