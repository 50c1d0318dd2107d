"""Stores turned deed by deed, and journals to hold the program's answers against."""

import itertools
import random

from helpers import books_of, lots_of, ranks_of
from newsbooks.journals import Journal
from newsbooks.ranks import Rank
from newsbooks.turning import turned

WORDS = ("lead", "push", "lean", "level", "sink", "ask", "back")
NO_WORDS = ("", "Lead", "put", "give", "deed", "lead ", None, 3, ["lead"], ("lead",), {})


def lots_for(word, worlds):
    """The lots that a deed of this word takes."""
    if word == "back":
        return [()]
    return lots_of(worlds)[:-1] if word in ("level", "sink") else books_of(worlds)


def all_deeds(worlds):
    return [(word, lot) for word in WORDS for lot in lots_for(word, worlds)]


def all_entries(worlds):
    return [deed + (answer,) for deed in all_deeds(worlds) for answer in books_of(worlds)]


def store_behind(rank, deeds):
    """The answers of the store to the deeds, and the rank that it is behind them."""
    history = [rank]
    answers = []
    for word, lot in deeds:
        if word == "back":
            history = history[:-1] if len(history) > 1 else history
        elif word != "ask":
            history = history + [turned(history[-1], word, lot)]
        answers.append(history[-1].best(lot) if word == "ask" else history[-1].held)
    return answers, history[-1]


def deeds_in(entries):
    return [(word, lot) for word, lot, _ in entries]


def givers(worlds, held, entries):
    """All ranks that give the journal."""
    told = [answer for _, _, answer in entries]
    return [rank for rank in ranks_of(worlds)
            if rank.held == held and store_behind(rank, deeds_in(entries))[0] == told]


def given_by(journal):
    return givers(journal.worlds, journal.beginning, journal.entries)


def some_journals(worlds, most, many, seed, words=WORDS, ranks=None):
    """Some journals, always the same ones: those of ranks, and these with one answer changed."""
    chance = random.Random(seed)
    ranks = ranks or ranks_of(worlds)
    deeds = [deed for deed in all_deeds(worlds) if deed[0] in words]
    by_word = {word: [deed for deed in deeds if deed[0] == word] for word in words}
    found = []
    while len(found) < many:
        rank = chance.choice(ranks)
        row = [chance.choice(by_word[chance.choice(words)]) for _ in range(chance.randint(1, most))]
        answers, _ = store_behind(rank, row)
        entries = [deed + (answer,) for deed, answer in zip(row, answers)]
        found.append(Journal(worlds, rank.held, entries))
        if chance.random() < 0.6:
            place = chance.randrange(len(entries))
            entries[place] = entries[place][:2] + (chance.choice(books_of(worlds)),)
            found.append(Journal(worlds, rank.held, entries))
    return found


def journals_with_codes(worlds, many, seed):
    """Journals that begin flat: pushes make flat blocks of several worlds, and leans give these unlike codes."""
    words = ("push", "push", "lean", "lean", "ask", "sink", "level", "back", "lead")
    return some_journals(worlds, 9, many, seed, words, [Rank.flat(worlds)])


def short_journals():
    """All journals of one world with two entries, of two worlds with two, of three worlds with one."""
    found = []
    for worlds, most in ((1, 2), (2, 2), (3, 1)):
        for many in range(most + 1):
            for entries in itertools.product(all_entries(worlds), repeat=many):
                for held in books_of(worlds):
                    found.append(Journal(worlds, held, entries))
    return found
