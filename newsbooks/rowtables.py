"""Row tables: what is held behind one piece of news and then another."""

from newsbooks.errors import BadCase, TooMany
from newsbooks.lots import books_inside, common, every, lot_of, meets
from newsbooks.relations import rank_behind
from newsbooks.tables import MOST_LISTED, Table
from newsbooks.triples import answers_by_lots, is_answered, triple_fault
from newsbooks.turning import check_put_word, turned


def check_few(thing):
    """Refuse a rank or table of more worlds than row tables have."""
    if thing.worlds > MOST_LISTED:
        raise TooMany(MOST_LISTED)


class RowTable:
    """A row table: a table, and for each two lots what is held of the second one behind both."""

    def __init__(self, table, second):
        check_few(table)
        place = triple_fault(second, table.worlds, is_answered)
        if place is not None:
            raise BadCase(place)
        self.table = table
        self.worlds = table.worlds
        self.by_lots = answers_by_lots(second)

    @classmethod
    def of_rank(cls, rank, word):
        """Return the row table of the rank by the word."""
        check_put_word(word)
        check_few(rank)
        lots = books_inside(every(rank.worlds))
        second = [(lot, other, turned(rank, word, lot).best(other)) for lot in lots for other in lots]
        return cls(Table.of_rank(rank), second)

    def held_behind(self, lot, other):
        """Return what is held behind the lot and then the other one."""
        first = lot_of(lot, self.worlds, empty=False)
        return self.by_lots[(first, lot_of(other, self.worlds, empty=False))]


def lead_rule(table, lot, other):
    """Return what the rule of "lead" wants to be held behind the lot and then the other one."""
    return table.answer(common(lot, other)) if meets(lot, other) else table.answer(other)


def push_rule(table, lot, other):
    """Return what the rule of "push" wants to be held behind the lot and then the other one."""
    return common(table.answer(lot), other) or table.answer(other)


def lean_rule(table, lot, other):
    """Return what the rule of "lean" wants to be held behind the lot and then the other one."""
    if meets(table.answer(lot), other) or meets(table.answer(other), lot):
        return table.answer(common(lot, other))
    return table.answer(other)


RULES = {"lead": lead_rule, "push": push_rule, "lean": lean_rule}


def row_break(rowtable, word):
    """Return the least pair of lots for which the rule of the word does not hold, or None."""
    check_put_word(word)
    rule = RULES[word]
    lots = books_inside(every(rowtable.worlds))
    for lot in lots:
        for other in lots:
            if rowtable.held_behind(lot, other) != rule(rowtable.table, lot, other):
                return (lot, other)
    return None


def row_rank(rowtable, word):
    """Return the rank whose row table by the word this is, or None."""
    return rank_behind(rowtable.table) if row_break(rowtable, word) is None else None
