"""Acts of rows of news: what leading by a row does to every rank."""

from newsbooks.checks import is_within
from newsbooks.errors import BadNumber
from newsbooks.folds import led_row, news_of
from newsbooks.lots import every, inside, lot_of, rest_of
from newsbooks.ranks import Rank
from newsbooks.turning import check_put_word


def act_of(news, worlds):
    """Return the act of the row."""
    return led_row(Rank.flat(worlds), news)


def same_act(one, other, worlds):
    """Return whether two rows have the same act."""
    return act_of(one, worlds) == act_of(other, worlds)


def row_with_place(news, worlds, place):
    """Return the row as news_of does, and refuse all but the place of a piece."""
    row = news_of(news, worlds)
    if not is_within(place, 0, len(row) - 1):
        raise BadNumber("place")
    return row


def is_idle(news, worlds, place):
    """Return whether the row without the piece at this place has the same act."""
    row = row_with_place(news, worlds, place)
    return same_act(row, row[:place] + row[place + 1:], worlds)


def parts(piece, one, other):
    """Return whether the piece has just one of the two worlds."""
    return (one in piece) != (other in piece)


def newest_parting(row, one, other):
    """Return the newest piece of the row that parts two worlds, or None."""
    partings = [piece for piece in row if parts(piece, one, other)]
    return partings[-1] if partings else None


def is_made_up_for(row, place, one, other):
    """Return whether the piece at this place puts one before other to no effect."""
    if newest_parting(row[place + 1:], one, other) is not None:
        return True
    older = newest_parting(row[:place], one, other)
    return older is not None and one in older


def idle_shape(news, worlds, place):
    """Return whether each two worlds that the piece parts are parted in its way by other pieces."""
    row = row_with_place(news, worlds, place)
    piece = row[place]
    return all([is_made_up_for(row, place, x, y) for x in piece for y in rest_of(piece, worlds)])


def without_doubles(news, worlds):
    """Return the row without all pieces of which an equal one is newer."""
    row = news_of(news, worlds)
    return tuple([piece for place, piece in enumerate(row) if piece not in row[place + 1:]])


def may_change(one, other, word, worlds):
    """Return whether two pieces, as a row of two, may change places on every rank."""
    first = lot_of(one, worlds, empty=False)
    second = lot_of(other, worlds, empty=False)
    check_put_word(word)
    if word == "lead":
        return inside(first, second) or inside(second, first)
    return first == second or every(worlds) in (first, second)
