"""Desks, which keep a journal that some rank gives."""

from newsbooks.coming import asked_lot, can_come, come_all, come_some, must_come
from newsbooks.errors import BadFamily, BadWord, NotSo, TooMany
from newsbooks.families import family_of
from newsbooks.firsts import MOST_LISTED
from newsbooks.journals import MOST_ENTRIES, Journal, entries_of, journal_of, lots_needed
from newsbooks.parting import joined_ring
from newsbooks.readings import count_given, may_have_given, why_none


def check_over(desk, deeds):
    """Refuse deeds that would lead the journal of the desk out of its family."""
    if desk.family is None:
        return
    if not all([lot in desk.family for lot in lots_needed(deeds, desk.worlds)]):
        raise BadFamily(-1)


def lot_for(desk, word, lot):
    """Return the lot of a deed that the desk is asked about as an ascending tuple, and refuse what it may not have."""
    asked = asked_lot(word, lot, desk.worlds)
    check_over(desk, [(word, asked)])
    return asked


def journal_and(desk, entries):
    """Return the journal of the desk with these entries, which are right, behind its own; refuse too many."""
    return Journal(desk.worlds, desk.journal.beginning, desk.journal.entries + entries)


def journal_told(desk, word, lot, answer):
    """Return the journal of the desk with one more entry, whether or not some rank gives it."""
    entries = entries_of([(word, lot, answer)], desk.worlds)
    check_over(desk, [entry[:2] for entry in entries])
    return journal_and(desk, entries)


class Desk:
    """A desk: it is told entries, and keeps the journal of them as long as some rank gives it."""

    def __init__(self, worlds, held, *, family=None):
        self.journal = Journal(worlds, held)
        self.family = None if family is None else family_of(family, worlds)
        self.worlds = worlds

    @property
    def journal_now(self):
        """The journal."""
        return self.journal

    @property
    def told_held(self):
        """What is held now."""
        return self.journal.now

    @property
    def entries_left(self):
        """How many entries can still be told."""
        return MOST_ENTRIES - len(self.journal.entries)

    @entries_left.setter
    def entries_left(self, value):
        raise BadWord("entries_left")

    def tell(self, word, lot, answer):
        """Put the entry behind the others."""
        journal = journal_told(self, word, lot, answer)
        why = why_none(journal)
        if why is not None:
            raise NotSo(why)
        self.journal = journal

    def could(self, word, lot):
        """Return all answers that can come to one more deed, in lot order."""
        return can_come(self.journal, word, lot_for(self, word, lot))

    def must(self, word, lot):
        """Return the only answer that can come to one more deed, or None."""
        return must_come(self.journal, word, lot_for(self, word, lot))

    def some(self, lot):
        """Return the worlds that are in some answer that can come when the lot is asked."""
        return come_some(self.journal, lot_for(self, "ask", lot))

    def sure(self, lot):
        """Return the worlds that are in each answer that can come when the lot is asked."""
        return come_all(self.journal, lot_for(self, "ask", lot))

    def ranks_left(self):
        """Return the number of ranks that give the journal."""
        if self.worlds > MOST_LISTED:
            raise TooMany(MOST_LISTED)
        return count_given(self.journal)

    def least(self):
        """Return the least rank that gives the journal."""
        return may_have_given(self.journal)

    def take_back(self):
        """Take the last entry out and return it; None if there is none."""
        entries = self.journal.entries
        if not entries:
            return None
        self.journal = Journal(self.worlds, self.journal.beginning, entries[:-1])
        return entries[-1]

    def what_if(self, entries, word, lot):
        """Return what is to come to a deed behind these entries: "not so", "must" or "open", and more of it."""
        told = entries_of(entries, self.worlds)
        asked = asked_lot(word, lot, self.worlds)
        check_over(self, [entry[:2] for entry in told] + [(word, asked)])
        if len(self.journal.entries) + len(told) >= MOST_ENTRIES:
            raise TooMany(MOST_ENTRIES)
        journal = journal_and(self, told)
        why = why_none(journal)
        if why is not None:
            return ("not so", why)
        answer = must_come(journal, word, asked)
        return ("open", can_come(journal, word, asked)) if answer is None else ("must", answer)

    def same_as(self, other):
        """Return whether the other desk has an equal journal."""
        return self.journal == other.journal

    def joined_with(self, other):
        """Return a shortest ring of the comparisons of both desks, or None."""
        return joined_ring(self.journal, other.journal)


def begun_as(desk):
    """Return a new desk with the same family and beginning, without entries."""
    return Desk(desk.worlds, desk.journal.beginning, family=desk.family)


def trial_of(desk, entries):
    """Return a new desk with the same family and journal, to which the entries were then told."""
    told = entries_of(entries, desk.worlds)
    twin = begun_as(desk)
    twin.journal = desk.journal
    for word, lot, answer in told:
        twin.tell(word, lot, answer)
    return twin


def remade(desk):
    """Return a new desk with the same family, told the entries of the desk one by one."""
    return trial_of(begun_as(desk), desk.journal.entries)


def desk_of(rank, deeds):
    """Return a desk without family with the journal that the rank gives by the deeds."""
    desk = Desk(rank.worlds, rank.held)
    desk.journal = journal_of(rank, deeds)
    return desk


class Trial:
    """Entered by "with", it gives a twin of the desk, which may be told things while the desk stays."""

    def __init__(self, desk):
        self.desk = desk

    def __enter__(self):
        return trial_of(self.desk, ())

    def __exit__(self, kind, value, trace):
        pass
