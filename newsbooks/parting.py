"""What parts two ranks, and what several journals tell together."""

from newsbooks.chains import ring_of
from newsbooks.checks import check_same_worlds
from newsbooks.errors import BadDeed, BadNumber
from newsbooks.families import family_of, part_of
from newsbooks.journals import Journal
from newsbooks.keeping import least_rank
from newsbooks.lots import lots_in_order
from newsbooks.narrowing import classes_of, is_whole, met
from newsbooks.readings import Reading, steps_read


def parted_by(one, other, family):
    """Return the least places of the family whose common part has unlike best lots in the ranks, or None."""
    lots = family_of(family, one.worlds)
    check_same_worlds(one, other)
    for places in lots_in_order(len(lots)):
        part = part_of(lots, places, one.worlds)
        if part and one.best(part) != other.best(part):
            return places
    return None


def parting_deeds(one, other, family):
    """Return deeds that part the ranks, or None."""
    places = parted_by(one, other, family)
    if places is None:
        return None
    lots = family_of(family, one.worlds)
    return tuple([("ask" if place == places[-1] else "lead", lots[place]) for place in places])


def check_journals(journals):
    """Refuse all but journals of the same worlds."""
    if not journals:
        raise BadNumber("journals")
    for journal in journals:
        check_same_worlds(journals[0], journal)


def steps_by_comparison(readings):
    """Return a dict of all comparisons, each with the first step (journal, place, x, sign, y) that tells it."""
    found = {}
    for number, reading in enumerate(readings):
        for step in steps_read(reading):
            found.setdefault(step[1:], (number,) + step)
    return found


def joined_ring(*journals):
    """Return a shortest ring of the comparisons of all journals, or None."""
    check_journals(journals)
    steps = steps_by_comparison([Reading(journal) for journal in journals])
    ring = ring_of(journals[0].worlds, list(steps))
    if ring is None:
        return None
    told = list(steps.values())
    return tuple([told[place] for place in ring])


def joined_rank(*journals):
    """Return the least rank that gives all journals, or None."""
    check_journals(journals)
    readings = [Reading(journal) for journal in journals]
    if any([reading.fallen is not None for reading in readings]):
        return None
    return least_rank(journals[0].worlds, list(steps_by_comparison(readings)))


def narrowed_journal(journal, classes):
    """Return the journal narrowed to the classes."""
    lots = classes_of(classes, journal.worlds)
    for place, (_, lot, _) in enumerate(journal.entries):
        if not is_whole(lots, lot):
            raise BadDeed(place)
    entries = [(word, met(lots, lot), met(lots, answer)) for word, lot, answer in journal.entries]
    return Journal(len(lots), met(lots, journal.beginning), entries)
