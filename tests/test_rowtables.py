"""Point 96: row tables and their rules."""

import itertools
import random
import unittest

from helpers import NO_INTEGERS, NO_ROWS, best_of, books_of, ranks_of, refused, sublots
from newsbooks.errors import BadCase, BadLot, BadWord, TooMany
from newsbooks.ranks import Rank
from newsbooks.rowtables import RowTable, row_break, row_rank
from newsbooks.tables import Table, all_tables
from newsbooks.turning import turned
from newsbooks.wishes import has_wish

WORDS = ("lead", "push", "lean")
NO_WORDS = ("", "Lead", "level", "sink", "ask", "back", "put", None, 3, ["lead"], ("lead",), {})


def wanted_by_rule(table, word, lot, other):
    """What the rule of the word wants, by the words of the document."""
    both = tuple(sorted(set(lot) & set(other)))
    if word == "lead":
        return table.answer(both) if both else table.answer(other)
    if word == "push":
        front = tuple(sorted(set(table.answer(lot)) & set(other)))
        return front if front else table.answer(other)
    near = set(table.answer(lot)) & set(other) or set(table.answer(other)) & set(lot)
    return table.answer(both) if near else table.answer(other)


def pairs_of(worlds):
    return list(itertools.product(books_of(worlds), repeat=2))


def by_rule(table, word):
    """The row table for which the rule of the word holds."""
    return RowTable(table, [(lot, other, wanted_by_rule(table, word, lot, other))
                            for lot, other in pairs_of(table.worlds)])


def changed(rowtable, chance):
    """The row table with another answer for one pair of lots."""
    place = chance.randrange(len(pairs_of(rowtable.worlds)))
    rows = [[lot, other, rowtable.held_behind(lot, other)] for lot, other in pairs_of(rowtable.worlds)]
    rows[place][2] = chance.choice(sublots(rows[place][1])[1:])
    return RowTable(rowtable.table, rows)


def second_of(rowtable):
    return [rowtable.held_behind(lot, other) for lot, other in pairs_of(rowtable.worlds)]


def some_row_tables():
    """Row tables of ranks, by the rules on any tables, and these changed for one pair of lots."""
    chance = random.Random(96)
    tables = list(all_tables(1)) + list(all_tables(2)) + list(all_tables(3))[::6]
    found = []
    for table, word in itertools.product(tables, WORDS):
        found = found + [by_rule(table, word), changed(by_rule(table, word), chance)]
    for worlds in (1, 2, 3):
        for rank, word in itertools.product(ranks_of(worlds), WORDS):
            found.append(RowTable.of_rank(rank, word))
    return found


ROW_TABLES = some_row_tables()
TABLE = Table.of_rank(Rank.flat(2))
ONE = (0,)
TWO = (1,)
BOTH = (0, 1)
SECOND = [(lot, other, other) for lot in (ONE, TWO, BOTH) for other in (ONE, TWO, BOTH)]


class RowTablesTest(unittest.TestCase):
    def test_96_row_tables(self):
        mixed = SECOND[::-1][:8] + [([0], [0], [0])]
        rowtable = RowTable(TABLE, mixed)
        self.assertEqual([rowtable.worlds, rowtable.table], [2, TABLE])
        for lot, other, answer in SECOND:
            self.assertEqual(rowtable.held_behind(list(reversed(lot)), list(reversed(other))), answer)
        one = RowTable(Table(1, [(ONE, ONE)]), [(ONE, ONE, ONE)])
        self.assertEqual([one.worlds, one.held_behind((0,), [0])], [1, ONE])

    def test_96_refused_seconds(self):
        for second in NO_ROWS:
            refused(self, BadCase(-1), RowTable, TABLE, second)
        wrong = NO_ROWS + ((), (ONE, TWO), (ONE, TWO, TWO, TWO), (ONE, TWO, ONE), (ONE, TWO, BOTH), (ONE, TWO, ()))
        wrong = wrong + (((), TWO, TWO), (ONE, (), ()), ((2,), TWO, TWO), (ONE, (1, 1), TWO), (ONE, TWO, (1, 1)))
        wrong = wrong + ((ONE, ONE, ONE), ([0], [0], [0]), (None, TWO, TWO), ("0", TWO, TWO), (ONE, TWO, (True,)))
        for entry in wrong:
            refused(self, BadCase(1), RowTable, TABLE, [(ONE, ONE, ONE), entry, None])
        refused(self, BadCase(9), RowTable, TABLE, SECOND + [([1, 0], BOTH, ONE)])
        for place in range(9):
            refused(self, BadCase(8), RowTable, TABLE, SECOND[:place] + SECOND[place + 1:])
        refused(self, BadCase(0), RowTable, TABLE, [])

    def test_96_three_worlds_and_four(self):
        for worlds in (4, 6):
            refused(self, TooMany(3), RowTable, Table.of_rank(Rank.flat(worlds)), None)
        for worlds in (4, 12):
            refused(self, TooMany(3), RowTable.of_rank, Rank.flat(worlds), "lean")
        three = Table.of_rank(Rank.flat(3))
        second = [(lot, other, other) for lot, other in pairs_of(3)]
        self.assertEqual(len(second), 49)
        self.assertEqual(RowTable(three, second).held_behind((2, 0), (1, 0)), (0, 1))
        refused(self, BadCase(48), RowTable, three, second[1:])

    def test_96_refused_lots(self):
        rowtable = RowTable(TABLE, SECOND)
        for lot in NO_ROWS + ((), []):
            refused(self, BadLot(-1), rowtable.held_behind, lot, "no lot")
            refused(self, BadLot(-1), rowtable.held_behind, lot, ONE)
            refused(self, BadLot(-1), rowtable.held_behind, ONE, lot)
        for entry in NO_INTEGERS + (2, -1, 0):
            refused(self, BadLot(1), rowtable.held_behind, [0, entry], "no lot")
            refused(self, BadLot(1), rowtable.held_behind, ONE, [0, entry])

    def test_96_refused_words(self):
        rowtable = RowTable(TABLE, SECOND)
        for word in NO_WORDS:
            refused(self, BadWord(word), RowTable.of_rank, Rank.flat(4), word)
            refused(self, BadWord(word), row_break, rowtable, word)
            refused(self, BadWord(word), row_rank, rowtable, word)

    def test_96_of_rank(self):
        for worlds in (1, 2, 3):
            for rank, word in itertools.product(ranks_of(worlds), WORDS):
                rowtable = RowTable.of_rank(rank, word)
                self.assertEqual([rowtable.table, rowtable.worlds], [Table.of_rank(rank), worlds])
                for lot, other in pairs_of(worlds):
                    wanted = best_of(turned(rank, word, lot).levels, other)
                    self.assertEqual(rowtable.held_behind(lot, other), wanted)
                self.assertIsNone(row_break(rowtable, word))
                self.assertEqual(row_rank(rowtable, word), rank)

    def test_96_the_rules_hold_for_more_worlds(self):
        for rank in ranks_of(4)[::5]:
            table = Table.of_rank(rank)
            for word, lot in itertools.product(WORDS, books_of(4)):
                later = turned(rank, word, lot)
                for other in books_of(4):
                    self.assertEqual(later.best(other), wanted_by_rule(table, word, lot, other))

    def test_96_the_first_pair_for_which_a_rule_does_not_hold(self):
        for rowtable in ROW_TABLES:
            for word in WORDS:
                wrong = [(lot, other) for lot, other in pairs_of(rowtable.worlds)
                         if rowtable.held_behind(lot, other) != wanted_by_rule(rowtable.table, word, lot, other)]
                self.assertEqual(row_break(rowtable, word), wrong[0] if wrong else None)

    def test_96_row_tables_of_ranks(self):
        seen = set()
        for word in WORDS:
            ranks = {}
            for worlds in (1, 2, 3):
                for rank in ranks_of(worlds):
                    made = RowTable.of_rank(rank, word)
                    ranks[(made.table.pairs, tuple(second_of(made)))] = rank
            for rowtable in ROW_TABLES:
                wanted = ranks.get((rowtable.table.pairs, tuple(second_of(rowtable))))
                self.assertEqual(row_rank(rowtable, word), wanted)
                arrow, rule = has_wish(rowtable.table, "arrow"), row_break(rowtable, word) is None
                self.assertEqual(wanted is not None, arrow and rule)
                seen.add((word, arrow, rule))
        self.assertEqual(len(seen), 12)


if __name__ == "__main__":
    unittest.main()
