"""Rows of news, and the fold that tells what is held behind them."""

from newsbooks.checks import check_worlds, is_integer, is_row
from newsbooks.errors import BadNews, TooMany
from newsbooks.lots import common, every, is_book, lot_of, meets
from newsbooks.turning import leaned, led, pushed

MOST_NEWS = 20


def news_of(news, worlds):
    """Return the row of news as a tuple of ascending lots, the oldest first."""
    check_worlds(worlds)
    if not is_row(news):
        raise BadNews(-1)
    for place, piece in enumerate(news):
        if not is_book(piece, worlds):
            raise BadNews(place)
    if len(news) > MOST_NEWS:
        raise TooMany(MOST_NEWS)
    return tuple([tuple(sorted(piece)) for piece in news])


def led_row(rank, news):
    """Return the rank led by the row."""
    after = rank
    for piece in news_of(news, rank.worlds):
        after = led(after, piece)
    return after


def pushed_row(rank, news):
    """Return the rank pushed by the row."""
    after = rank
    for piece in news_of(news, rank.worlds):
        after = pushed(after, piece)
    return after


def leaned_row(rank, news):
    """Return the rank leaned by the row."""
    after = rank
    for piece in news_of(news, rank.worlds):
        after = leaned(after, piece)
    return after


def fold(news, worlds, asked):
    """Return the lot on which the row is folded for what is asked, and the places of the pieces taken."""
    row = news_of(news, worlds)
    lot = lot_of(asked, worlds, empty=False)
    places = ()
    for place in range(len(row) - 1, -1, -1):
        if meets(row[place], lot):
            lot = common(row[place], lot)
            places = (place,) + places
    return (lot, places)


def row_answer(rank, news, asked):
    """Return the best of what is asked in the rank led by the row."""
    lot, _ = fold(news, rank.worlds, asked)
    return rank.best(lot)


def taken_news(news, worlds):
    """Return the pieces taken where W is asked, the oldest first."""
    row = news_of(news, worlds)
    _, places = fold(row, worlds, every(worlds))
    return tuple([row[place] for place in places])


def is_integers(value):
    """Return whether this is a list or tuple of integers."""
    return is_row(value) and all([is_integer(entry) for entry in value])


def is_fold(news, worlds, asked, lot, taken):
    """Return whether the lot and the places taken are the fold of the row with what is asked."""
    right = fold(news, worlds, asked)
    return is_integers(lot) and is_integers(taken) and (tuple(lot), tuple(taken)) == right
