"""Base tables: what of a base stays when a lot is given up."""

from newsbooks.bases import base_of
from newsbooks.checks import check_worlds, is_row, wrong_entry
from newsbooks.errors import BadCase, BadTable
from newsbooks.families import part_of
from newsbooks.folds import is_integers
from newsbooks.givings import Giving, lots_but_all
from newsbooks.lots import common, inside, lot_but_all, lot_fault
from newsbooks.masks import mask_of
from newsbooks.rests import carrying, hitting, kernels_for, left_out, rests_for
from newsbooks.wishes import check_known

MOST_BASE_TABLED = 4


def is_staying(entry, worlds, many, taken):
    """Return whether the entry is a pair of a lot but W that was not taken and a sublist of so many places."""
    if not is_row(entry) or len(entry) != 2:
        return False
    lot, sublist = entry
    if lot_fault(lot, worlds) is not None or len(lot) == worlds or tuple(sorted(lot)) in taken:
        return False
    return is_row(sublist) and wrong_entry(sublist, many) is None


def sublists_by_lot(worlds, many, answers):
    """Return the answers as a dict of lots."""
    if not is_row(answers):
        raise BadTable(-1)
    found = {}
    for place, entry in enumerate(answers):
        if not is_staying(entry, worlds, many, found):
            raise BadTable(place)
        lot, sublist = entry
        found[tuple(sorted(lot))] = tuple(sorted(sublist))
    if len(found) < (1 << worlds) - 1:
        raise BadTable(len(answers))
    return found


def rests_by_lot(base, worlds):
    """Return a dict that has for each lot but W, in lot order, its rests; refuse what is no base of few worlds."""
    check_worlds(worlds, MOST_BASE_TABLED)
    lots = base_of(base, worlds)
    return {lot: rests_for(lots, worlds, lot) for lot in lots_but_all(worlds)}


def in_each(sublists):
    """Return the places that all of the sublists, at least one, have."""
    places = sublists[0]
    for sublist in sublists[1:]:
        places = common(places, sublist)
    return places


def are_sublists(value):
    """Return whether this is a list or tuple of lists or tuples of integers."""
    return is_row(value) and all([is_integers(sublist) for sublist in value])


def is_choice(entry, able, taken):
    """Return whether the entry is one of the able tuples of rests that was not taken, with some of these rests."""
    if not is_row(entry) or len(entry) != 2 or not are_sublists(entry[0]) or not are_sublists(entry[1]):
        return False
    told = tuple([tuple(rest) for rest in entry[0]])
    if told not in able or told in taken:
        return False
    return len(entry[1]) > 0 and all([tuple(sorted(rest)) in told for rest in entry[1]])


def choices_by_rests(choose, able):
    """Return the choice as a dict from each of the able tuples of rests to what is chosen."""
    if not is_row(choose):
        raise BadCase(-1)
    found = {}
    for place, entry in enumerate(choose):
        if not is_choice(entry, able, found):
            raise BadCase(place)
        told, chosen = entry
        found[tuple([tuple(rest) for rest in told])] = [tuple(sorted(rest)) for rest in chosen]
    if not all([told in found for told in able]):
        raise BadCase(len(choose))
    return found


class BaseTable:
    """A base table: for each lot but W the sublist that stays with it."""

    def __init__(self, base, worlds, answers):
        check_worlds(worlds, MOST_BASE_TABLED)
        self.base = base_of(base, worlds)
        self.by_lot = sublists_by_lot(worlds, len(self.base), answers)
        self.worlds = worlds
        self.pairs = tuple([(lot, self.by_lot[lot]) for lot in lots_but_all(worlds)])

    @classmethod
    def of_choice(cls, base, worlds, choose):
        """Return the table of the choice."""
        found = rests_by_lot(base, worlds)
        chosen = choices_by_rests(choose, list(found.values()))
        return cls(base, worlds, [(lot, in_each(chosen[told])) for lot, told in found.items()])

    @classmethod
    def of_first(cls, base, worlds):
        """Return the table of the first rest for each lot."""
        return cls(base, worlds, [(lot, told[0]) for lot, told in rests_by_lot(base, worlds).items()])

    @classmethod
    def of_all(cls, base, worlds):
        """Return the table of the choice of all rests."""
        return cls(base, worlds, [(lot, in_each(told)) for lot, told in rests_by_lot(base, worlds).items()])

    def stays_with(self, lot):
        """Return what stays with the lot."""
        return self.by_lot[lot_but_all(lot, self.worlds)]


def breaks_safe(table, lot, stays):
    """Return [-1] if what stays carries the lot, else []."""
    return [-1] if inside(part_of(table.base, stays, table.worlds), lot) else []


def breaks_needed(table, lot, stays):
    """Return the places left out without which no sublist around what stays carries the lot any less."""
    many = len(table.base)
    carried = carrying(table.base, table.worlds, lot)
    kept = mask_of(stays)
    frees = [mask for mask in range(1 << many) if mask & kept == kept and not carried[mask]]
    return [place for place in left_out(stays, many) if not any([carried[mask | 1 << place] for mask in frees])]


def breaks_in_a_kernel(table, lot, stays):
    """Return the places left out that are in no kernel for the lot."""
    found = kernels_for(table.base, table.worlds, lot)
    return [place for place in left_out(stays, len(table.base)) if not any([place in kernel for kernel in found])]


def breaks_same(table, lot, stays):
    """Return [-1] if something else stays with an earlier lot carried by the same sublists, else []."""
    carried = carrying(table.base, table.worlds, lot)
    for other, staying in table.pairs:
        if other == lot:
            return []
        if staying != stays and carrying(table.base, table.worlds, other) == carried:
            return [-1]
    return []


BASE_WISHES = ("safe", "needed", "in a kernel", "same")

BASE_BREAKS = {
    "safe": breaks_safe,
    "needed": breaks_needed,
    "in a kernel": breaks_in_a_kernel,
    "same": breaks_same,
}


def base_break(table, wish):
    """Return the least break of the wish, a lot with a place or -1, or None."""
    check_known(wish, BASE_WISHES)
    breaks = BASE_BREAKS[wish]
    for lot, stays in table.pairs:
        found = breaks(table, lot, stays)
        if found:
            return (lot, found[0])
    return None


def has_all(table, wishes):
    """Return whether the table has all of these wishes."""
    return all([base_break(table, wish) is None for wish in wishes])


def choice_behind(table):
    """Return the greatest choice whose table this is, or None."""
    if not has_all(table, ("safe", "needed", "same")):
        return None
    found = {}
    for lot, stays in table.pairs:
        told = rests_for(table.base, table.worlds, lot)
        found[told] = tuple([rest for rest in told if inside(stays, rest)])
    return tuple(list(found.items()))


def falls_behind(table):
    """Return what is left out for each unlike tuple of kernels, or None if that is not one for each."""
    if not has_all(table, ("safe", "in a kernel", "same")):
        return None
    found = {}
    for lot, stays in table.pairs:
        found[kernels_for(table.base, table.worlds, lot)] = left_out(stays, len(table.base))
    return tuple(list(found.items()))


def is_joined_at(table, lot, stays):
    """Return whether each place left out is in a least sublist that meets all kernels and is left out whole."""
    many = len(table.base)
    out = left_out(stays, many)
    least = [places for places in hitting(kernels_for(table.base, table.worlds, lot), many) if inside(places, out)]
    return all([any([place in places for places in least]) for place in out])


def is_joined(table):
    """Return whether the table is joined."""
    return all([is_joined_at(table, lot, stays) for lot, stays in table.pairs])


def said_table(table):
    """Return the give-up table of what is said by what stays."""
    pairs = [(lot, part_of(table.base, stays, table.worlds)) for lot, stays in table.pairs]
    return Giving(table.worlds, pairs)
