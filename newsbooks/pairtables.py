"""Pair tables: what each book becomes by each piece of news."""

from newsbooks.checks import check_same_worlds, check_worlds, is_row
from newsbooks.errors import BadPairs, BadTable, TooMany
from newsbooks.lots import books_inside, common, every, inside, lot_of, meets, plus
from newsbooks.tables import Table
from newsbooks.triples import answers_by_lots, is_answered, triple_fault
from newsbooks.wishes import check_known

MOST_PAIRED = 4


def check_tables(tables, allows):
    """Refuse all but Tables of the same one to four worlds; allows tells whether a Table may stand at its place."""
    if not is_row(tables) or len(tables) == 0:
        raise BadTable(-1)
    for place, table in enumerate(tables):
        if not isinstance(table, Table) or not allows(table, place):
            raise BadTable(place)
    for table in tables:
        check_same_worlds(tables[0], table)
    if tables[0].worlds > MOST_PAIRED:
        raise TooMany(MOST_PAIRED)


def any_table(table, place):
    """Return that each Table may stand at each place."""
    return True


class PairTable:
    """A pair table: for each book and each piece of news a lot inside the news."""

    def __init__(self, worlds, answers):
        check_worlds(worlds, MOST_PAIRED)
        place = triple_fault(answers, worlds, is_answered)
        if place is not None:
            raise BadPairs(place)
        self.worlds = worlds
        self.by_lots = answers_by_lots(answers)

    @classmethod
    def of_tables(cls, tables):
        """Return the pair table with these rows, one for each book in lot order."""
        check_tables(tables, any_table)
        worlds = tables[0].worlds
        books = books_inside(every(worlds))
        if len(tables) != len(books):
            raise BadTable(len(tables))
        rows = [(book, table.pairs) for book, table in zip(books, tables)]
        return cls(worlds, [(book, lot, answer) for book, pairs in rows for lot, answer in pairs])

    def changed(self, book, news):
        """Return what the book becomes by the news."""
        first = lot_of(book, self.worlds, empty=False)
        return self.by_lots[(first, lot_of(news, self.worlds, empty=False))]

    def row_for(self, book):
        """Return the table that answers each piece of news as the book does."""
        first = lot_of(book, self.worlds, empty=False)
        return Table(self.worlds, [(news, self.by_lots[(first, news)]) for news in books_inside(every(self.worlds))])

    def __eq__(self, other):
        return isinstance(other, PairTable) and self.by_lots == other.by_lots


# Here by_lots has what each book becomes by each piece of news; other is a second book, later a second piece of news.


def breaks_stays(by_lots, book, other, news, later):
    """Return whether the book lies inside the news and changes."""
    return inside(book, news) and by_lots[(book, news)] != book


def breaks_both(by_lots, book, other, news, later):
    """Return whether the union of the books becomes something else than the union of what they become."""
    return by_lots[(plus(book, other), news)] != plus(by_lots[(book, news)], by_lots[(other, news)])


def breaks_keep(by_lots, book, other, news, later):
    """Return whether the book meets the news and becomes something else than the common part."""
    return meets(book, news) and by_lots[(book, news)] != common(book, news)


def breaks_mono(by_lots, book, other, news, later):
    """Return whether the book lies inside the other one, and what it becomes does not."""
    return inside(book, other) and not inside(by_lots[(book, news)], by_lots[(other, news)])


def breaks_apart(by_lots, book, other, news, later):
    """Return whether news that are disjoint from the later ones change what the book becomes by these."""
    return not meets(news, later) and by_lots[(by_lots[(book, news)], later)] != by_lots[(book, later)]


PAIR_WISHES = ("stays", "both", "keep", "mono", "apart")

PAIR_BREAKS = {
    "stays": breaks_stays,
    "both": breaks_both,
    "keep": breaks_keep,
    "mono": breaks_mono,
    "apart": breaks_apart,
}


def pair_breaks(table, wish):
    """Return the list of all (K, L, A, B) at which the wish is broken, the least first.

    A lot of which the wish does not speak is ().
    """
    check_known(wish, PAIR_WISHES)
    breaks = PAIR_BREAKS[wish]
    by_lots = table.by_lots
    lots = books_inside(every(table.worlds))
    others = lots if wish in ("both", "mono") else [()]
    laters = lots if wish == "apart" else [()]
    return [(book, other, news, later) for book in lots for other in others for news in lots for later in laters
            if breaks(by_lots, book, other, news, later)]


def pair_break(table, wish):
    """Return the least (K, L, A, B) at which the wish is broken, or None."""
    found = pair_breaks(table, wish)
    return found[0] if found else None
