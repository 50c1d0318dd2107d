"""Bases to hold the program's answers against, and what their sublists say."""

import itertools
import random

from helpers import lots_of


def common_of(lots, worlds):
    """The common part of the lots, W for none."""
    part = set(range(worlds))
    for lot in lots:
        part = part & set(lot)
    return tuple(sorted(part))


def said(base, worlds, sublist):
    return common_of([base[place] for place in sublist], worlds)


def is_carried(base, worlds, sublist, lot):
    return set(said(base, worlds, sublist)) <= set(lot)


def with_place(sublist, place):
    return tuple(sorted({*sublist, place}))


def plain_rests(base, worlds, lot):
    found = []
    for sublist in lots_of(len(base)):
        others = [place for place in range(len(base)) if place not in sublist]
        if not is_carried(base, worlds, sublist, lot):
            if all(is_carried(base, worlds, with_place(sublist, place), lot) for place in others):
                found.append(sublist)
    return tuple(found)


def plain_kernels(base, worlds, lot):
    found = []
    for sublist in lots_of(len(base)):
        without = [tuple(other for other in sublist if other != place) for place in sublist]
        if is_carried(base, worlds, sublist, lot) and not any(is_carried(base, worlds, row, lot) for row in without):
            found.append(sublist)
    return tuple(found)


def least_meeting(lists, many):
    """The sublists that meet each of the lists, and of which no part but they themselves does, in sublist order."""
    def meets_all(sublist):
        return all(set(sublist) & set(row) for row in lists)
    able = [sublist for sublist in lots_of(many) if meets_all(sublist)]
    return tuple(row for row in able if not any(set(other) < set(row) for other in able))


def all_bases(worlds, most):
    """All bases of at most so many lots, in any order, with doubles, the empty lot and W."""
    return [base for many in range(most + 1) for base in itertools.product(lots_of(worlds), repeat=many)]


def some_bases(worlds, most, many, seed, empty=True):
    """Some bases, always the same ones."""
    chance = random.Random(seed)
    lots = lots_of(worlds) if empty else lots_of(worlds)[1:]
    return [tuple(chance.choice(lots) for _ in range(chance.randint(0, most))) for _ in range(many)]
