"""Ranks as texts."""

from newsbooks.checks import MOST_WORLDS
from newsbooks.errors import BadRank, BadText
from newsbooks.ranks import Rank

BETWEEN_CELLS = " | "


def rank_text(rank):
    """Return the text of the rank."""
    return BETWEEN_CELLS.join([cell_text(cell) for cell in rank.cells])


def cell_text(cell):
    """Return the text of one cell."""
    return " ".join([str(world) for world in cell])


def rank_from(text):
    """Return the rank with this text."""
    if not isinstance(text, str):
        raise BadText(0)
    cells = [cell.split(" ") for cell in text.split(BETWEEN_CELLS)]
    numbers = {str(world): world for world in range(MOST_WORLDS)}
    if not all([piece in numbers for cell in cells for piece in cell]):
        raise BadText(0)
    rank = rank_of_pieces([[numbers[piece] for piece in cell] for cell in cells])
    if rank_text(rank) != text:
        raise BadText(0)
    return rank


def rank_of_pieces(cells):
    """Return the rank with these cells; BadText, with its cause, if there is none."""
    try:
        return Rank(cells)
    except BadRank as fault:
        raise BadText(0) from fault
