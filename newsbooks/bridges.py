"""Bridges between tables of answers and give-up tables."""

from newsbooks.givings import Giving, lots_but_all
from newsbooks.lots import books_inside, common, every, plus, rest_of
from newsbooks.tables import Table


def put_from(giving):
    """Return the table whose answers are what is left inside a lot when its rest is given up.

    None if one of these answers would be empty.
    """
    worlds = giving.worlds
    pairs = [(lot, common(giving.kept(rest_of(lot, worlds)), lot)) for lot in books_inside(every(worlds))]
    return Table(worlds, pairs) if all([answer for _, answer in pairs]) else None


def give_from(table):
    """Return the give-up table that adds to what is held the answer to the rest of what is given up."""
    worlds = table.worlds
    pairs = [(lot, plus(table.held, table.answer(rest_of(lot, worlds)))) for lot in lots_but_all(worlds)]
    return Giving(worlds, pairs)
