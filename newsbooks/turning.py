"""Deeds, and how they turn ranks."""

from newsbooks.checks import check_same_worlds, check_worlds
from newsbooks.errors import BadLot, BadWord
from newsbooks.lots import common, inside, lot_but_all, lot_of, minus, plus, rest_of
from newsbooks.ranks import Rank


def parts_in(cells, lot):
    """Return the parts of the cells inside the lot, without empty ones."""
    return [part for part in [common(cell, lot) for cell in cells] if part]


def parts_out(cells, lot):
    """Return the parts of the cells outside the lot, without empty ones."""
    return [part for part in [minus(cell, lot) for cell in cells] if part]


def led(rank, lot):
    """Return the rank turned by "lead"."""
    news = lot_of(lot, rank.worlds, empty=False)
    return Rank(parts_in(rank.cells, news) + parts_out(rank.cells, news))


def pushed(rank, lot):
    """Return the rank turned by "push"."""
    front = rank.best(lot)
    return Rank([front] + parts_out(rank.cells, front))


def leaned(rank, lot):
    """Return the rank turned by "lean"."""
    front = rank.best(lot)
    cells = [front]
    for cell in parts_out(rank.cells, front):
        cells = cells + parts_in([cell], lot) + parts_out([cell], lot)
    return Rank(cells)


def levelled(rank, lot):
    """Return the rank turned by "level"."""
    gone = lot_but_all(lot, rank.worlds)
    if not inside(rank.held, gone):
        return rank
    front = plus(rank.held, rank.best(rest_of(gone, rank.worlds)))
    return Rank([front] + parts_out(rank.cells, front))


def sunk(rank, lot):
    """Return the rank turned by "sink"."""
    gone = lot_but_all(lot, rank.worlds)
    if not inside(rank.held, gone):
        return rank
    back = rank.behind_best(rest_of(gone, rank.worlds))
    return Rank([rest_of(back, rank.worlds)] + parts_in(rank.cells, back))


def unturned(rank, lot):
    """Return the rank as "ask" leaves it."""
    lot_of(lot, rank.worlds, empty=False)
    return rank


TURNS = {"lead": led, "push": pushed, "lean": leaned, "level": levelled, "sink": sunk, "ask": unturned}

PUT_WORDS = ("lead", "push", "lean")


def check_word(word):
    """Refuse all but the six words of deeds."""
    if not isinstance(word, str) or word not in TURNS:
        raise BadWord(word)


def check_put_word(word):
    """Refuse all but the words of the deeds that put a lot in."""
    if not isinstance(word, str) or word not in PUT_WORDS:
        raise BadWord(word)


def turned(rank, word, lot):
    """Return the rank turned by the deed of this word."""
    check_word(word)
    turn = TURNS[word]
    return turn(rank, lot)


def answer_of(rank, word, lot):
    """Return the answer of the deed of this word."""
    after = turned(rank, word, lot)
    return rank.best(lot) if word == "ask" else after.held


class Deed:
    """A deed about a lot; by itself it takes any lot and turns nothing."""

    WORD = "deed"

    def __init__(self, lot, worlds):
        self.lot = lot_of(lot, worlds)
        self.worlds = worlds

    def on_rank(self, rank):
        """Return the rank turned by the deed."""
        check_same_worlds(self, rank)
        return rank


class PutDeed(Deed):
    """A deed that puts a lot in."""

    WORD = "put"

    def __init__(self, lot, worlds):
        super().__init__(lot, worlds)
        if not self.lot:
            raise BadLot(-1)


class AskDeed(Deed):
    """A deed that asks a lot."""

    WORD = "ask"

    def __init__(self, lot, worlds):
        super().__init__(lot, worlds)
        if not self.lot:
            raise BadLot(-1)


class GiveDeed(Deed):
    """A deed that gives a lot up."""

    WORD = "give"

    def __init__(self, lot, worlds):
        super().__init__(lot, worlds)
        if len(self.lot) == worlds:
            raise BadLot(-1)


class LeadDeed(PutDeed):
    """The deed "lead"."""

    WORD = "lead"

    def on_rank(self, rank):
        """Return the rank turned by "lead"."""
        check_same_worlds(self, rank)
        return led(rank, self.lot)


class PushDeed(PutDeed):
    """The deed "push"."""

    WORD = "push"

    def on_rank(self, rank):
        """Return the rank turned by "push"."""
        check_same_worlds(self, rank)
        return pushed(rank, self.lot)


class LeanDeed(PutDeed):
    """The deed "lean"."""

    WORD = "lean"

    def on_rank(self, rank):
        """Return the rank turned by "lean"."""
        check_same_worlds(self, rank)
        return leaned(rank, self.lot)


class LevelDeed(GiveDeed):
    """The deed "level"."""

    WORD = "level"

    def on_rank(self, rank):
        """Return the rank turned by "level"."""
        check_same_worlds(self, rank)
        return levelled(rank, self.lot)


class SinkDeed(GiveDeed):
    """The deed "sink"."""

    WORD = "sink"

    def on_rank(self, rank):
        """Return the rank turned by "sink"."""
        check_same_worlds(self, rank)
        return sunk(rank, self.lot)


def deed_named(word, lot, worlds):
    """Return the deed of this word."""
    check_worlds(worlds)
    check_word(word)
    if word == "lead":
        return LeadDeed(lot, worlds)
    if word == "push":
        return PushDeed(lot, worlds)
    if word == "lean":
        return LeanDeed(lot, worlds)
    if word == "level":
        return LevelDeed(lot, worlds)
    if word == "sink":
        return SinkDeed(lot, worlds)
    return AskDeed(lot, worlds)
