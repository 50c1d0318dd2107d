"""Points 46, 47, 57 and 58: tables."""

import itertools
import random
import unittest

from helpers import NO_INTEGERS, NO_ROWS, best_of, books_of, ranks_of, refused, sublots
from newsbooks.errors import BadComparison, BadLot, BadNumber, BadOrder, BadTable, OtherWorlds, TooMany
from newsbooks.ranks import Rank
from newsbooks.tables import Table, all_tables, then
from newsbooks.wishes import is_kind, kinds_of


def answers_of(worlds, answer):
    return tuple((lot, tuple(answer(lot))) for lot in books_of(worlds))


def some_table(chance, worlds):
    return Table(worlds, answers_of(worlds, lambda lot: chance.choice([row for row in sublots(lot) if row])))


class TablesTest(unittest.TestCase):
    def test_46_answers(self):
        pairs = [[[1, 0], [1]], ((0,), (0,)), [(1,), [1]]]
        table = Table(2, pairs)
        self.assertEqual(table.pairs, (((0,), (0,)), ((1,), (1,)), ((0, 1), (1,))))
        self.assertEqual([table.worlds, table.held, len(table)], [2, (1,), 3])
        self.assertEqual([table.answer([1, 0]), table.answer((0,))], [(1,), (0,)])
        self.assertEqual(Table(1, [((0,), (0,))]).pairs, (((0,), (0,)),))
        self.assertEqual(Table(2, pairs[1:] + [((1, 0), [1, 0])]).held, (0, 1))
        table = some_table(random.Random(46), 6)
        self.assertEqual([len(table), table.held], [63, table.pairs[-1][1]])
        for lot, answer in table.pairs:
            self.assertEqual(table.answer(list(reversed(lot))), answer)
        self.assertEqual([lot for lot, _ in table.pairs], books_of(6))

    def test_46_refused_lots(self):
        table = some_table(random.Random(1), 3)
        for lot in NO_ROWS + ((), []):
            refused(self, BadLot(-1), table.answer, lot)
        for entry in NO_INTEGERS + (3, 2):
            refused(self, BadLot(1), table.answer, [2, entry])

    def test_46_refused_tables(self):
        for worlds in (0, 7, 12) + NO_INTEGERS:
            refused(self, BadNumber("worlds"), Table, worlds, "no answers")
        for answers in NO_ROWS:
            refused(self, BadTable(-1), Table, 2, answers)
        for entry in NO_ROWS + ((), ((0,),), ((0,), (0,), (0,)), ("0", (0,)), ((), ()), ((2,), (2,)), ((0, 0), (0,)),
                                ((1,), (1,)), ((0,), None), ((0,), ()), ((0,), (1,)), ((0,), (0, 1)),
                                ((0,), (0, 0)), ((True,), (True,)), ((0,), (False,)), ((0, 1), (2,))):
            refused(self, BadTable(1), Table, 2, [((1,), (1,)), entry, None])
        refused(self, BadTable(2), Table, 2, [((1,), (1,)), ((0, 1), (0,)), ([1, 0], (0,))])
        refused(self, BadTable(2), Table, 2, [((1,), (1,)), ((0, 1), (0,))])
        refused(self, BadTable(0), Table, 1, [])
        refused(self, BadTable(1), Table, 1, [((0,), (0,))] * 2)

    def test_47_table_of_a_rank(self):
        for worlds in (1, 2, 3, 4):
            for rank in ranks_of(worlds):
                wanted = answers_of(worlds, lambda lot: best_of(rank.levels, lot))
                self.assertEqual(Table.of_rank(rank).pairs, wanted)
        self.assertEqual(len(Table.of_rank(Rank.flat(6))), 63)
        for worlds in range(7, 13):
            refused(self, TooMany(6), Table.of_rank, Rank.flat(worlds))

    def test_47_table_of_strict_orders(self):
        orders = list(itertools.permutations(range(3)))
        for size in range(1, 4):
            for row in itertools.product(orders, repeat=size):
                wanted = answers_of(3, lambda lot: sorted({next(x for x in order if x in lot) for order in row}))
                self.assertEqual(Table.of_orders([list(order) for order in row]).pairs, wanted)
        self.assertEqual(Table.of_orders([(0,)]).pairs, (((0,), (0,)),))
        six = Table.of_orders([(5, 4, 3, 2, 1, 0), (1, 3, 5, 0, 2, 4)])
        self.assertEqual([six.held, six.answer((0, 2, 4)), len(six)], [(1, 5), (0, 4), 63])

    def test_47_refused_orders(self):
        for orders in NO_ROWS + ((), []):
            refused(self, BadOrder(-1), Table.of_orders, orders)
        for order in NO_ROWS + ((), (0, 1), (0, 1, 2, 3), (0, 1, 1), (0, 1, 3), (0, True, 2), ("0", 1, 2)):
            refused(self, BadOrder(1), Table.of_orders, [(2, 1, 0), order, None])
        for order in NO_ROWS + ((), (1,), (0, 0), tuple(range(13))):
            refused(self, BadOrder(0), Table.of_orders, [order, (0, 1)])
        for worlds in (7, 12):
            refused(self, TooMany(6), Table.of_orders, [tuple(range(worlds))])
            refused(self, BadOrder(1), Table.of_orders, [tuple(range(worlds)), tuple(range(worlds - 1))])

    def test_47_table_of_a_relation(self):
        pairs = list(itertools.product(range(3), repeat=2))
        for size in range(4):
            for ahead in itertools.combinations(pairs, size):
                wanted = answers_of(3, lambda lot: [y for y in lot if not any((x, y) in ahead for x in lot)])
                if not all(answer for _, answer in wanted):
                    refused(self, BadComparison(-1), Table.of_relation, 3, ahead)
                else:
                    doubled = [list(pair) for pair in ahead] + list(ahead)
                    self.assertEqual(Table.of_relation(3, doubled).pairs, wanted)
        self.assertEqual(Table.of_relation(2, []), Table.of_rank(Rank.flat(2)))

    def test_47_refused_relations(self):
        for worlds in (0, 7, 12) + NO_INTEGERS:
            refused(self, BadNumber("worlds"), Table.of_relation, worlds, "no pairs")
        for ahead in NO_ROWS:
            refused(self, BadComparison(-1), Table.of_relation, 3, ahead)
        for entry in NO_ROWS + ((), (0,), (0, 1, 2), (3, 0), (0, 3), (0, True), ("0", 1), (0, -1), (0, None)):
            refused(self, BadComparison(1), Table.of_relation, 3, [(0, 0), entry, None])
        refused(self, BadComparison(-1), Table.of_relation, 1, [(0, 0)])
        ring = [(x, (x + 1) % 6) for x in range(6)]
        refused(self, BadComparison(-1), Table.of_relation, 6, ring)
        self.assertEqual(Table.of_relation(6, ring[:-1]).held, (0,))

    def test_47_table_of_stretches(self):
        big = 10 ** 30
        for starts in itertools.product(range(3), repeat=3):
            for sizes in itertools.product(range(3), repeat=3):
                ends = [start + size for start, size in zip(starts, sizes)]
                ahead = [(x, y) for x in range(3) for y in range(3) if ends[x] < starts[y]]
                table = Table.of_stretches(list(starts), ends)
                self.assertEqual(table, Table.of_relation(3, ahead))
                far = Table.of_stretches([big * x - big for x in starts], tuple(big * x - big for x in ends))
                self.assertEqual(far, table)
        self.assertEqual(Table.of_stretches((-5,), [-5]).pairs, (((0,), (0,)),))
        self.assertEqual(Table.of_stretches((0, 1, 2, 0, 1, 2), [0, 1, 2, 2, 2, 2]).held, (0, 3))

    def test_47_refused_stretches(self):
        for starts in NO_ROWS + ((), [], [0] * 7, [0, True], [0, "1"], [0, 1.0], [None]):
            refused(self, BadNumber("starts"), Table.of_stretches, starts, "no ends")
        for ends in NO_ROWS + ((), [3], [3, 3, 3], [3, True], [3, "1"], [3, -3], [1, 5], [3, None]):
            refused(self, BadNumber("ends"), Table.of_stretches, [2, -2], ends)

    def test_46_equal_tables(self):
        tables = list(all_tables(2)) + list(all_tables(3))[:9] + [Table.of_rank(Rank.flat(1))]
        for one, other in itertools.product(tables, repeat=2):
            self.assertIs(one == other, one.pairs == other.pairs)
            self.assertIs(one != other, one.pairs != other.pairs)
        for other in (tables[0].pairs, None, 3, Rank.flat(2)):
            self.assertIs(tables[0] == other, False)

    def test_49_all_tables(self):
        for worlds, count in ((1, 1), (2, 3), (3, 189)):
            lots = books_of(worlds)
            rows = itertools.product(*[[row for row in sublots(lot) if row] for lot in lots])
            found = list(all_tables(worlds))
            self.assertEqual([table.pairs for table in found], [tuple(zip(lots, row)) for row in rows])
            self.assertEqual(len(found), count)
        for worlds in (0, 7, 12) + NO_INTEGERS:
            row = all_tables(worlds)
            refused(self, BadNumber("worlds"), next, row)
        for worlds in (4, 5, 6):
            row = all_tables(worlds)
            refused(self, TooMany(3), next, row)

    def test_57_united_tables(self):
        tables = list(all_tables(3))[::7]
        for t, u in itertools.product(tables, repeat=2):
            both = t + u
            self.assertIsInstance(both, Table)
            self.assertEqual(both.pairs, answers_of(3, lambda lot: sorted(set(t.answer(lot)) | set(u.answer(lot)))))
        of_orders = [table for table in all_tables(3) if is_kind(table, "orders")]
        self.assertEqual(len(of_orders), 22)
        for t, u in itertools.product(of_orders, repeat=2):
            self.assertIs(is_kind(t + u, "orders"), True)
        t, u = Table.of_orders([(0, 1, 2)]), Table.of_orders([(2, 1, 0)])
        self.assertEqual([len(kinds_of(t)), len(kinds_of(u)), kinds_of(t + u)], [6, 6, ("orders",)])
        self.assertRaises(TypeError, lambda: t + t.pairs)
        for n, k in ((2, 3), (3, 1), (6, 5)):
            refused(self, OtherWorlds(k), lambda: Table.of_rank(Rank.flat(n)) + Table.of_rank(Rank.flat(k)))

    def test_58_one_table_then_another(self):
        tables = list(all_tables(3))[::7]
        for t, u in itertools.product(tables, repeat=2):
            self.assertEqual(then(t, u).pairs, answers_of(3, lambda lot: u.answer(t.answer(lot))))
        for p, r in itertools.product(ranks_of(3), repeat=2):
            self.assertEqual(then(Table.of_rank(p), Table.of_rank(r)), Table.of_rank(p * r))
        refused(self, OtherWorlds(1), then, Table.of_rank(Rank.flat(2)), Table.of_rank(Rank.flat(1)))


if __name__ == "__main__":
    unittest.main()
