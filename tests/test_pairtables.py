"""Points 151 and 152: pair tables and the wishes that they may have."""

import itertools
import unittest

from changes import all_moving, all_pair_tables, answers_in, some_pair_tables, table_with
from helpers import NO_INTEGERS, NO_ROWS, books_of, lot_key, refused
from newsbooks.errors import BadLot, BadNumber, BadPairs, BadTable, BadWord, OtherWorlds, TooMany
from newsbooks.pairtables import PAIR_WISHES, PairTable, pair_break
from newsbooks.tables import Table

THREES = [table_with(3, answers) for answers in all_moving(3)] + some_pair_tables(3, 12, 152)
FOURS = some_pair_tables(4, 2, 152)
ONE_WORLD = [((0,), (0,), (0,))]
TWO_WORLDS = [(book, news, news) for book in books_of(2) for news in books_of(2)]


def is_broken(answers, wish, book, other, news, later):
    """Whether the wish is broken at these lots, by the words of the document, with sets in the place of lots."""
    def become(lot, piece):
        return set(answers[(tuple(sorted(lot)), tuple(sorted(piece)))])
    k, m, a, b = set(book), set(other), set(news), set(later)
    if wish == "stays":
        return k <= a and become(k, a) != k
    if wish == "both":
        return become(k | m, a) != become(k, a) | become(m, a)
    if wish == "keep":
        return bool(k & a) and become(k, a) != k & a
    if wish == "mono":
        return k <= m and not become(k, a) <= become(m, a)
    return not a & b and become(become(k, a), b) != become(k, b)


def least_broken(table, wish):
    answers, lots = answers_in(table), books_of(table.worlds)
    seconds = lots if wish in ("both", "mono") else [()]
    lasts = lots if wish == "apart" else [()]
    for row in itertools.product(lots, seconds, lots, lasts):
        if is_broken(answers, wish, *row):
            return row
    return None


class PairTablesTest(unittest.TestCase):
    def test_151_what_books_become(self):
        for table in all_pair_tables(1) + all_pair_tables(2) + THREES[::5] + FOURS[::3]:
            answers = answers_in(table)
            entries = [[list(reversed(book)), list(reversed(news)), list(reversed(answer))]
                       for (book, news), answer in reversed(list(answers.items()))]
            same = PairTable(table.worlds, entries)
            self.assertEqual([answers_in(same), same == table, same.worlds], [answers, True, table.worlds])
            for book in books_of(table.worlds):
                row = table.row_for(list(reversed(book)))
                self.assertIsInstance(row, Table)
                self.assertEqual(row.pairs, tuple((news, answers[(book, news)]) for news in books_of(table.worlds)))
                for news in books_of(table.worlds):
                    self.assertEqual(table.changed(list(reversed(book)), list(reversed(news))), answers[(book, news)])

    def test_151_equal_tables(self):
        tables = all_pair_tables(2)
        self.assertEqual(len(tables), 27)
        for one, other in itertools.product(range(27), repeat=2):
            self.assertIs(tables[one] == tables[other], one == other)
        self.assertIs(PairTable(1, ONE_WORLD) == PairTable(1, ONE_WORLD), True)
        for other in (None, 3, (), ONE_WORLD, PairTable(2, TWO_WORLDS), Table(1, [((0,), (0,))])):
            self.assertIs(PairTable(1, ONE_WORLD) == other, False)

    def test_151_of_rows(self):
        for table in all_pair_tables(1) + all_pair_tables(2) + THREES[::5] + FOURS[::3]:
            rows = [table.row_for(book) for book in books_of(table.worlds)]
            self.assertEqual(PairTable.of_tables(rows), table)
            self.assertEqual(PairTable.of_tables(tuple(rows)), table)

    def test_151_wrong_worlds(self):
        for worlds in NO_INTEGERS + (0, 5, -1):
            refused(self, BadNumber("worlds"), PairTable, worlds, None)
        self.assertEqual(PairTable(4, [(K, A, A) for K in books_of(4) for A in books_of(4)]).worlds, 4)

    def test_151_wrong_entries(self):
        for answers in NO_ROWS:
            refused(self, BadPairs(-1), PairTable, 2, answers)
        wrong = [((0,), (0,)), ((0,), (0,), (0,), (0,)), ((), (0,), (0,)), ((0,), (), ()), ((0,), (0,), ()),
                 ((0,), (0,), (1,)), ((0,), (0, 1), (0, 1, 2)), ((2,), (0,), (0,)), ((0, 0), (0,), (0,)),
                 ((0,), (0, 1), (1, 1)), ((0,), (True,), (0,)), (None, (0,), (0,)), "abc", None, 5]
        for entry in wrong:
            for place in (0, 2, 9):
                refused(self, BadPairs(place), PairTable, 2, TWO_WORLDS[:place] + [entry] + TWO_WORLDS[place:])
        refused(self, BadPairs(9), PairTable, 2, TWO_WORLDS + [((1, 0), [1, 0], (0,))])
        refused(self, BadPairs(1), PairTable, 1, ONE_WORLD * 2)
        for gone in range(9):
            refused(self, BadPairs(8), PairTable, 2, TWO_WORLDS[:gone] + TWO_WORLDS[gone + 1:])
        refused(self, BadPairs(0), PairTable, 1, [])

    def test_151_wrong_lots(self):
        table = PairTable(2, TWO_WORLDS)
        for lot, place in (((), -1), (None, -1), ("0", -1), ((2,), 0), ((0, 0), 1), ((0, True), 1)):
            refused(self, BadLot(place), table.changed, lot, None)
            refused(self, BadLot(place), table.changed, (0,), lot)
            refused(self, BadLot(place), table.row_for, lot)

    def test_151_wrong_rows(self):
        tables = [Table.of_orders([tuple(range(worlds))]) for worlds in (1, 2, 3, 4, 5)]
        for value in NO_ROWS + ((), []):
            refused(self, BadTable(-1), PairTable.of_tables, value)
        for value in NO_INTEGERS + (3, PairTable(1, ONE_WORLD)):
            refused(self, BadTable(1), PairTable.of_tables, [tables[1], value, tables[2]])
            refused(self, BadTable(2), PairTable.of_tables, [tables[4], tables[2], value])
        refused(self, OtherWorlds(3), PairTable.of_tables, [tables[1], tables[1], tables[2], tables[0]])
        refused(self, OtherWorlds(1), PairTable.of_tables, [tables[4], tables[0]])
        for many in (1, 31, 32):
            refused(self, TooMany(4), PairTable.of_tables, [tables[4]] * many)
        for worlds, books in ((1, 1), (2, 3), (3, 7), (4, 15)):
            self.assertEqual(PairTable.of_tables([tables[worlds - 1]] * books).worlds, worlds)
            for many in [books - 1] * (books > 1) + [books + 1]:
                refused(self, BadTable(many), PairTable.of_tables, [tables[worlds - 1]] * many)


class PairWishesTest(unittest.TestCase):
    def test_152_the_least_break(self):
        self.assertEqual(PAIR_WISHES, ("stays", "both", "keep", "mono", "apart"))
        kept = {wish: 0 for wish in PAIR_WISHES}
        for table in all_pair_tables(1) + all_pair_tables(2) + THREES + FOURS:
            for wish in PAIR_WISHES:
                found = pair_break(table, wish)
                self.assertEqual(found, least_broken(table, wish))
                kept[wish] += found is None
        self.assertGreater(min(kept.values()), 5)

    def test_152_lots_in_lot_order(self):
        for table in THREES:
            for wish in PAIR_WISHES:
                found = pair_break(table, wish)
                if found is not None:
                    answers, lots = answers_in(table), [()] + books_of(3)
                    earlier = [row for row in itertools.product(lots, repeat=4)
                               if [lot_key(lot) for lot in row] < [lot_key(lot) for lot in found]
                               and [lot == () for lot in row] == [lot == () for lot in found]]
                    self.assertFalse([row for row in earlier if is_broken(answers, wish, *row)])

    def test_152_other_words(self):
        for wish in ("", "Stays", "heritage", "stays ", None, 3, ("stays",), ["both"], {}):
            refused(self, BadWord(wish), pair_break, THREES[0], wish)


if __name__ == "__main__":
    unittest.main()
