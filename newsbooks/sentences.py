"""Sentences about facts, and the lots that they say."""

from newsbooks.errors import BadSentence, TooMany
from newsbooks.facts import FIGURES, LETTERS
from newsbooks.lots import common, every, lot_of, plus, rest_of

MOST_SIGNS = 2000
MOST_TURNS = 40


def check_text(text):
    """Refuse what is no text, is too long or is nested too deep."""
    if not isinstance(text, str):
        raise BadSentence(-1)
    if len(text) > MOST_SIGNS:
        raise TooMany(MOST_SIGNS)
    if text.count("(") + text.count("not ") > MOST_TURNS:
        raise TooMany(MOST_TURNS)


def goes_on(text, at, piece):
    """Return whether the text goes on with this piece here."""
    return text[at:at + len(piece)] == piece


def word_at(text, at):
    """Return the word that begins here, the empty text if none does."""
    end = at
    while end < len(text) and (text[end] in LETTERS or (end > at and text[end] in FIGURES)):
        end += 1
    return text[at:end]


def lot_with(facts, fact, value):
    """Return the worlds in which the fact has the value."""
    return tuple([world for world, row in enumerate(facts.rows) if row[fact] == value])


def named_at(facts, text, at, word):
    """Return the lot said by the part that begins here with a fact's name, and the place behind it."""
    sign = at + len(word)
    if not goes_on(text, sign, "="):
        raise BadSentence(sign)
    if sign + 1 == len(text) or text[sign + 1] not in FIGURES:
        raise BadSentence(sign + 1)
    value = int(text[sign + 1])
    if word not in facts.names:
        raise BadSentence(at)
    fact = facts.names.index(word)
    if value >= facts.counts[fact]:
        raise BadSentence(at)
    return lot_with(facts, fact, value), sign + 2


def part_at(facts, text, at):
    """Return the lot said by the part that begins here, and the place behind it."""
    if goes_on(text, at, "not "):
        lot, end = part_at(facts, text, at + 4)
        return rest_of(lot, facts.worlds), end
    if goes_on(text, at, "("):
        lot, end = sentence_at(facts, text, at + 1, True)
        return lot, end + 1
    word = word_at(text, at)
    if word == "":
        raise BadSentence(at)
    if word == "yes":
        return every(facts.worlds), at + 3
    if word == "no":
        return (), at + 2
    return named_at(facts, text, at, word)


def sentence_at(facts, text, at, bracket):
    """Return the lot said by the sentence that begins here, and the place at which it ends.

    In a bracket it ends at the ")" that closes it, else at the end of the text.
    """
    said = ()
    group, place = part_at(facts, text, at)
    while True:
        if goes_on(text, place, " and "):
            lot, place = part_at(facts, text, place + 5)
            group = common(group, lot)
        elif goes_on(text, place, " or "):
            said = plus(said, group)
            group, place = part_at(facts, text, place + 4)
        elif goes_on(text, place, ")") if bracket else place == len(text):
            return plus(said, group), place
        else:
            raise BadSentence(place)


def lot_said(facts, text):
    """Return the lot that the sentence says."""
    check_text(text)
    lot, _ = sentence_at(facts, text, 0, False)
    return lot


def plain(facts, lot):
    """Return the plain sentence of the lot."""
    kept = lot_of(lot, facts.worlds)
    if kept == ():
        return "no"
    if kept == every(facts.worlds):
        return "yes"
    chosen = facts.hangs_on(kept)
    if not facts.told_by(kept, chosen):
        chosen = tuple(range(facts.many))
    shares = sorted(set([tuple([facts.rows[world][fact] for fact in chosen]) for world in kept]))
    return " or ".join([group_text(facts, chosen, share) for share in shares])


def group_text(facts, chosen, share):
    """Return the group that says these values of the chosen facts."""
    return " and ".join([f"{facts.names[fact]}={value}" for fact, value in zip(chosen, share)])
