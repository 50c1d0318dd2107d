"""Classes of worlds, and ranks narrowed to them."""

from newsbooks.checks import check_same_worlds, check_worlds
from newsbooks.errors import BadClasses
from newsbooks.lots import inside, meets, parting_fault
from newsbooks.ranks import Rank


def classes_of(classes, worlds):
    """Return the classes as a tuple of lots, in the order handed in."""
    check_worlds(worlds)
    place = parting_fault(classes, worlds)
    if place is not None:
        raise BadClasses(place)
    return tuple([tuple(sorted(lot)) for lot in classes])


def met(classes, lot):
    """Return the numbers of the classes that have a world of the lot."""
    return tuple([number for number, part in enumerate(classes) if meets(part, lot)])


def is_whole(classes, lot):
    """Return whether the lot is a union of classes."""
    return all([inside(part, lot) for part in classes if meets(part, lot)])


def spread(classes, numbers):
    """Return the worlds of all classes with these numbers."""
    return tuple(sorted([world for number in numbers for world in classes[number]]))


def coarser(classes, other):
    """Return for each class of other the numbers of the classes in it, or None if one is not whole."""
    if not all([is_whole(classes, lot) for lot in other]):
        return None
    return tuple([met(classes, lot) for lot in other])


class Narrowing:
    """Called with a rank, it narrows the rank to its classes."""

    def __init__(self, classes, worlds):
        self.classes = classes_of(classes, worlds)
        self.worlds = worlds

    def __call__(self, rank):
        check_same_worlds(self, rank)
        return Rank.of_levels([min([rank.levels[world] for world in lot]) for lot in self.classes])
