"""Checks of arguments that many files share."""

from newsbooks.errors import BadNumber, BadOrder, OtherWorlds

MOST_WORLDS = 12


def is_integer(value):
    """Return whether the value is an INTEGER: True and False are none."""
    return isinstance(value, int) and not isinstance(value, bool)


def is_within(value, low, high):
    """Return whether the value is an integer from low to high."""
    return is_integer(value) and low <= value <= high


def is_row(value):
    """Return whether the value is a sequence that may be passed."""
    return isinstance(value, (list, tuple))


def check_worlds(worlds, most=MOST_WORLDS):
    """Refuse all but a number of worlds."""
    if not is_within(worlds, 1, most):
        raise BadNumber("worlds")


def check_world(world, worlds, name):
    """Refuse all but a world; name is that of the argument."""
    if not is_within(world, 0, worlds - 1):
        raise BadNumber(name)


def check_same_worlds(one, other):
    """Refuse a second object that is about another number of worlds."""
    if one.worlds != other.worlds:
        raise OtherWorlds(other.worlds)


def wrong_entry(entries, count):
    """Return the first place whose entry is none of 0 .. count-1 or stands earlier, or None."""
    for place, entry in enumerate(entries):
        if not is_within(entry, 0, count - 1) or entry in entries[:place]:
            return place
    return None


def check_order(order, worlds):
    """Refuse all but a strict order of these worlds."""
    if not is_row(order) or len(order) != worlds:
        raise BadOrder(-1)
    place = wrong_entry(order, worlds)
    if place is not None:
        raise BadOrder(place)
