"""Journals: what an unseen rank was told and asked, and what it answered."""

from newsbooks.checks import check_same_worlds, is_row
from newsbooks.errors import BadDeed, BadLot, TooMany
from newsbooks.families import family_of
from newsbooks.lots import inside, is_book, lot_fault, lot_of, rest_of
from newsbooks.turning import turned

MOST_ENTRIES = 60
GIVE_WORDS = ("level", "sink")
DEED_WORDS = ("lead", "push", "lean", "level", "sink", "ask", "back")


def may_have(word, many, worlds):
    """Return whether the deed of this word may have a lot of so many worlds."""
    if word == "back":
        return many == 0
    return many < worlds if word in GIVE_WORDS else many > 0


def deed_lot(word, lot, worlds):
    """Return the lot of a deed of this word as an ascending tuple."""
    kept = lot_of(lot, worlds)
    if not may_have(word, len(kept), worlds):
        raise BadLot(-1)
    return kept


def is_deed(word, lot, worlds, words):
    """Return whether the word is one of these words and the lot one that its deed may have."""
    if not isinstance(word, str) or word not in words:
        return False
    return lot_fault(lot, worlds) is None and may_have(word, len(lot), worlds)


def is_vain(word, lot, held):
    """Return whether the deed gives up a lot in which not all that is held lies, and so turns nothing."""
    return word in GIVE_WORDS and not inside(held, lot)


def lots_needed(deeds, worlds):
    """Return the list of the lots that a family must have for a journal with these deeds to be over it."""
    puts = [lot for word, lot in deeds if word not in GIVE_WORDS and word != "back"]
    return puts + [rest_of(lot, worlds) for word, lot in deeds if word in GIVE_WORDS]


def check_length(entries):
    """Refuse all but a list or tuple of at most as many entries as a journal has."""
    if not is_row(entries):
        raise BadDeed(-1)
    if len(entries) > MOST_ENTRIES:
        raise TooMany(MOST_ENTRIES)


def entries_of(entries, worlds, words=DEED_WORDS):
    """Return the entries of a journal, with these words, as a tuple of triples."""
    check_length(entries)
    for place, entry in enumerate(entries):
        if not is_row(entry) or len(entry) != 3:
            raise BadDeed(place)
        word, lot, answer = entry
        if not is_deed(word, lot, worlds, words) or not is_book(answer, worlds):
            raise BadDeed(place)
    return tuple([(word, tuple(sorted(lot)), tuple(sorted(answer))) for word, lot, answer in entries])


def is_deed_pair(entry, worlds):
    """Return whether this is a pair of a word and a lot that its deed may have."""
    if not is_row(entry) or len(entry) != 2:
        return False
    word, lot = entry
    return is_deed(word, lot, worlds, DEED_WORDS)


def deeds_of(deeds, worlds):
    """Return the deeds as a list of pairs of a word and a lot."""
    check_length(deeds)
    for place, entry in enumerate(deeds):
        if not is_deed_pair(entry, worlds):
            raise BadDeed(place)
    return [(word, tuple(sorted(lot))) for word, lot in deeds]


def answers_to(rank, deeds):
    """Return the list of the answers of a store that begins as the rank to these deeds."""
    answers = []
    ahead = []
    store = rank
    for word, lot in deeds:
        if word == "ask":
            answers.append(store.best(lot))
            continue
        if word != "back":
            ahead.append(store)
            store = turned(store, word, lot)
        elif ahead:
            store = ahead.pop()
        answers.append(store.held)
    return answers


class Journal:
    """A journal: the lot held at the beginning, and the entries in the order of time."""

    def __init__(self, worlds, held, entries=()):
        self.beginning = lot_of(held, worlds, empty=False)
        self.entries = entries_of(entries, worlds)
        self.worlds = worlds

    @classmethod
    def begin(cls, worlds, held):
        """Return the journal without entries."""
        return cls(worlds, held)

    @property
    def now(self):
        """What is held behind the last entry, as far as the journal tells."""
        held = [self.beginning] + [answer for word, _, answer in self.entries if word != "ask"]
        return held[-1]

    def with_entry(self, word, lot, answer):
        """Return the journal with this entry behind the others."""
        return Journal(self.worlds, self.beginning, self.entries + ((word, lot, answer),))

    def standing(self):
        """Return the places of the deeds that stand behind the last entry."""
        places = ()
        for place, (word, _, _) in enumerate(self.entries):
            if word == "back":
                places = places[:-1]
            elif word != "ask":
                places = places + (place,)
        return places

    def is_over(self, family):
        """Return whether each lot put in or asked, and the rest of each lot given up, is one of the family."""
        lots = family_of(family, self.worlds)
        deeds = [(word, lot) for word, lot, _ in self.entries]
        return all([lot in lots for lot in lots_needed(deeds, self.worlds)])

    def __eq__(self, other):
        if not isinstance(other, Journal):
            return False
        return self.worlds == other.worlds and self.beginning == other.beginning and self.entries == other.entries

    def __len__(self):
        return len(self.entries)

    def __iter__(self):
        return iter(self.entries)


def journal_of(rank, deeds):
    """Return the journal that the rank gives by these deeds."""
    pairs = deeds_of(deeds, rank.worlds)
    answers = answers_to(rank, pairs)
    return Journal(rank.worlds, rank.held, [(word, lot, answer) for (word, lot), answer in zip(pairs, answers)])


def gives(rank, journal):
    """Return whether the rank gives the journal."""
    check_same_worlds(rank, journal)
    if rank.held != journal.beginning:
        return False
    pairs = [(word, lot) for word, lot, _ in journal.entries]
    return answers_to(rank, pairs) == [answer for _, _, answer in journal.entries]
