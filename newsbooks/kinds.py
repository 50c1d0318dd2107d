"""Journals in which it is not told how some lots were put in."""

from newsbooks.checks import is_row
from newsbooks.errors import BadNumber, TooMany
from newsbooks.journals import DEED_WORDS, Journal, entries_of
from newsbooks.lots import lot_of
from newsbooks.readings import may_have_given
from newsbooks.turning import PUT_WORDS, check_put_word

UNTOLD = "put"
MOST_UNTOLD = 5
MOST_ROWS = 243


def entries_told(worlds, held, entries):
    """Return the entries, some of them untold, as a tuple of triples, and refuse what Journal would refuse."""
    lot_of(held, worlds, empty=False)
    return entries_of(entries, worlds, DEED_WORDS + (UNTOLD,))


def untold_places(entries):
    """Return the places of the entries whose word is untold."""
    return [place for place, (word, _, _) in enumerate(entries) if word == UNTOLD]


def row_fits(worlds, held, entries, row):
    """Return whether some rank gives the journal with the words of the row put in, as far as there are entries."""
    words = {place: word for place, word in zip(untold_places(entries), row)}
    told = [(words.get(place, word), lot, answer) for place, (word, lot, answer) in enumerate(entries)]
    return may_have_given(Journal(worlds, held, told)) is not None


def kinds_that_fit(worlds, held, entries):
    """Return all rows of words that fit, ascending."""
    told = entries_told(worlds, held, entries)
    many = len(untold_places(told))
    if many > MOST_UNTOLD:
        raise TooMany(MOST_ROWS)
    rows = [()]
    for _ in range(many):
        rows = [row + (word,) for row in rows for word in sorted(PUT_WORDS)]
    return tuple([row for row in rows if row_fits(worlds, held, told, row)])


def check_words(row, many, name):
    """Refuse all but a row of so many words that fit; name is that of the argument."""
    if not is_row(row) or len(row) != many:
        raise BadNumber(name)
    for word in row:
        check_put_word(word)


def first_parting(worlds, held, entries, row, other):
    """Return the least number of entries with which just one of the rows fits, or None."""
    told = entries_told(worlds, held, entries)
    many = len(untold_places(told))
    check_words(row, many, "row")
    check_words(other, many, "other")
    for count in range(len(told) + 1):
        first = told[:count]
        if row_fits(worlds, held, first, row) != row_fits(worlds, held, first, other):
            return count
    return None
