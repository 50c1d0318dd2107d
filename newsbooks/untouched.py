"""Whether news about some facts leave alone what is held about the others."""

from newsbooks.checks import check_same_worlds
from newsbooks.errors import BadLot
from newsbooks.lots import lot_of
from newsbooks.splitting import full_facts, other_facts, share_on, splits, values_on


def share_held(facts, rank, some):
    """Return the other share, for an ascending set of facts; refuse a rank that holds what does not split on it."""
    check_same_worlds(facts, rank)
    if not splits(facts, rank.held, some):
        raise BadLot(-1)
    return share_on(facts, rank.held, other_facts(facts, some))


def other_share(facts, rank, some):
    """Return the share of what the rank holds on the other facts."""
    return share_held(facts, rank, full_facts(facts, some))


def touched_by(facts, rank, some):
    """Return the touched slice with the least world, or None."""
    chosen = full_facts(facts, some)
    rows = share_held(facts, rank, chosen)
    others = other_facts(facts, chosen)
    for part in facts.alike_classes(chosen):
        if rank.best(part) != tuple([world for world in part if values_on(facts, world, others) in rows]):
            return part
    return None


def has_slices(facts, rank, some):
    """Return whether no slice is touched."""
    return touched_by(facts, rank, some) is None


def keeps_share(facts, rank, some, lot):
    """Return whether the lot keeps the other share."""
    chosen = full_facts(facts, some)
    kept = lot_of(lot, facts.worlds)
    rows = share_held(facts, rank, chosen)
    return splits(facts, kept, chosen) and share_on(facts, kept, other_facts(facts, chosen)) == rows
