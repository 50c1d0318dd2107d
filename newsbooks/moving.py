"""Pair tables that move each world of a book by itself."""

from newsbooks.checks import check_worlds
from newsbooks.errors import BadPairs, BadTable
from newsbooks.givings import lots_but_all
from newsbooks.lots import books_inside, common, every, plus, rest_of
from newsbooks.pairtables import MOST_PAIRED, PairTable, check_tables, pair_break
from newsbooks.triples import answers_by_lots, triple_fault
from newsbooks.wishes import first_break


def stays_at(table, world):
    """Return whether the table answers each lot with the world by this world alone."""
    return all([answer == (world,) for lot, answer in table.pairs if world in lot])


def moved(tables, book, news):
    """Return the union of the answers of the tables of the worlds of the book."""
    lot = ()
    for world in book:
        lot = plus(lot, tables[world].answer(news))
    return lot


def moving_of(tables):
    """Return the pair table that moves each world by its table."""
    check_tables(tables, stays_at)
    worlds = tables[0].worlds
    if len(tables) != worlds:
        raise BadTable(len(tables))
    lots = books_inside(every(worlds))
    return PairTable(worlds, [(book, news, moved(tables, book, news)) for book in lots for news in lots])


def tables_behind(table):
    """Return the tables, one for each world, by which the pair table moves, or None if it is not moving."""
    if pair_break(table, "stays") is not None or pair_break(table, "both") is not None:
        return None
    return tuple([table.row_for((world,)) for world in range(table.worlds)])


def book_break(table, book_wish):
    """Return the first book whose row breaks the wish, and the lots at which it does, or None."""
    for book in books_inside(every(table.worlds)):
        found = first_break(table.row_for(book), book_wish)
        if found is not None:
            return (book,) + found
    return None


def give_moves(table):
    """Return what each book becomes when each lot but W is given up by moving, as triples of lots."""
    worlds = table.worlds
    books = books_inside(every(worlds))
    pairs = [(book, lot) for book in books for lot in lots_but_all(worlds)]
    return tuple([(book, lot, plus(book, table.changed(book, rest_of(lot, worlds)))) for book, lot in pairs])


def is_given_up(lot, other, answer, worlds):
    """Return whether the lot is a book and the other one a lot that can be given up."""
    return len(lot) > 0 and len(other) < worlds


def move_back(worlds, triples):
    """Return the pair table behind what books become when lots are given up, or None if one of its lots is empty."""
    check_worlds(worlds, MOST_PAIRED)
    place = triple_fault(triples, worlds, is_given_up)
    if place is not None:
        raise BadPairs(place)
    given = answers_by_lots(triples)
    lots = books_inside(every(worlds))
    pairs = [(book, news) for book in lots for news in lots]
    answers = [(book, news, common(given[(book, rest_of(news, worlds))], news)) for book, news in pairs]
    return PairTable(worlds, answers) if all([answer for _, _, answer in answers]) else None
