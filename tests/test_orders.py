"""Points 51, 55 and 56: strict orders that fit, and torn lots."""

import itertools
import unittest

from helpers import NO_INTEGERS, NO_ROWS, books_of, refused, sublots
from newsbooks.errors import BadLot, BadNumber, BadOrder
from newsbooks.lots import inside
from newsbooks.orders import fits_table, greatest_inside, is_torn, order_for, orders_behind, torn_lot
from newsbooks.ranks import Rank
from newsbooks.tables import Table, all_tables
from newsbooks.wishes import is_kind
from test_wishes import some_tables

THREE = list(all_tables(3))
TABLES = list(all_tables(1)) + list(all_tables(2)) + THREE + some_tables(4, 80, 51)


def first_in(order, lot):
    return next(x for x in order if x in lot)


def fitting(table):
    """All strict orders that fit, ascending."""
    orders = itertools.permutations(range(table.worlds))
    return [order for order in orders if all(first_in(order, lot) in answer for lot, answer in table.pairs)]


def torn_lots(table):
    parts = {lot: [row for row in sublots(lot) if row] for lot in books_of(table.worlds)}
    return [lot for lot in parts
            if all(any(y in row and y not in table.answer(row) for row in parts[lot]) for y in lot)]


def within(one, other):
    return all(inside(answer, other.answer(lot)) for lot, answer in one.pairs)


def ring_table():
    """A table of three worlds that no strict order fits."""
    ones = [((x,), (x,)) for x in range(3)]
    return Table(3, ones + [((0, 1), (0,)), ((1, 2), (1,)), ((0, 2), (2,)), ((0, 1, 2), (0, 1, 2))])


class OrdersTest(unittest.TestCase):
    def test_51_orders_that_fit(self):
        for table in TABLES:
            orders = fitting(table)
            self.assertEqual(orders_behind(table), tuple(orders))
            for order in itertools.permutations(range(table.worlds)):
                self.assertIs(fits_table(list(order), table), order in orders)
        self.assertEqual(len(orders_behind(Table.of_rank(Rank.flat(6)))), 720)
        self.assertEqual(orders_behind(ring_table()), ())

    def test_51_tables_of_orders(self):
        orders = list(itertools.permutations(range(3)))
        rows = [row for size in range(1, 7) for row in itertools.combinations(orders, size)]
        found = {Table.of_orders(row).pairs for row in rows}
        for table in THREE:
            self.assertIs(is_kind(table, "orders"), table.pairs in found)
            if is_kind(table, "orders"):
                self.assertEqual(Table.of_orders(orders_behind(table)), table)
        for table in TABLES:
            if is_kind(table, "orders"):
                self.assertEqual(greatest_inside(table), table)
                for lot, answer in table.pairs:
                    for world in answer:
                        self.assertIsNotNone(order_for(table, lot, world))

    def test_51_order_for(self):
        for table in TABLES:
            orders = fitting(table)
            for lot in books_of(table.worlds):
                for world in lot:
                    found = order_for(table, list(reversed(lot)), world)
                    if not any(first_in(order, lot) == world for order in orders):
                        self.assertIsNone(found)
                    else:
                        self.assertIn(found, orders)
                        self.assertEqual(first_in(found, lot), world)

    def test_51_refused_orders(self):
        table = ring_table()
        for order in NO_ROWS + ((), (0, 1), (0, 1, 2, 0)):
            refused(self, BadOrder(-1), fits_table, order, table)
        for entry in NO_INTEGERS + (3, -1, 2):
            refused(self, BadOrder(1), fits_table, [2, entry, 2], table)

    def test_51_refused_worlds(self):
        table = Table.of_rank(Rank.flat(3))
        for lot in NO_ROWS + ((), []):
            refused(self, BadLot(-1), order_for, table, lot, "no world")
            refused(self, BadLot(-1), is_torn, table, lot)
        refused(self, BadLot(1), order_for, table, (2, 3), "no world")
        refused(self, BadLot(1), is_torn, table, (2, 2))
        for world in NO_INTEGERS + (1, 3, -1):
            refused(self, BadNumber("world"), order_for, table, (0, 2), world)
            refused(self, BadNumber("world"), order_for, ring_table(), (0, 2), world)

    def test_55_torn_lots(self):
        for table in TABLES:
            torn = torn_lots(table)
            for lot in books_of(table.worlds):
                self.assertIs(is_torn(table, list(reversed(lot))), lot in torn)
            self.assertEqual(torn == [], fitting(table) != [])
            found = torn_lot(table)
            if not torn:
                self.assertIsNone(found)
            else:
                self.assertIn(found, torn)
                self.assertTrue(all(inside(lot, found) for lot in torn))

    def test_55_no_lot_one_lot_and_every_lot_torn(self):
        self.assertIsNone(torn_lot(Table.of_rank(Rank.flat(6))))
        self.assertEqual(torn_lots(ring_table()), [(0, 1, 2)])
        self.assertEqual(torn_lot(ring_table()), (0, 1, 2))
        # No lot of one or two worlds can be torn; here all others are.
        pairs = [(lot, lot[:1] if len(lot) > 2 else lot[-1:]) for lot in books_of(6)]
        table = Table(6, pairs)
        self.assertTrue(all(is_torn(table, lot) == (len(lot) > 2) for lot in books_of(6)))
        self.assertEqual([torn_lot(table), orders_behind(table)], [(0, 1, 2, 3, 4, 5), ()])
        self.assertIsNone(greatest_inside(table))
        self.assertIsNone(order_for(table, (0, 1), 0))
        fours = [table for table in TABLES if table.worlds == 4 and torn_lots(table)]
        self.assertTrue(any(torn_lot(table) == (0, 1, 2, 3) for table in fours))
        self.assertTrue(any(len(torn_lot(table)) == 3 for table in fours))

    def test_56_greatest_inside(self):
        of_orders = [table for table in THREE if is_kind(table, "orders")]
        for table in THREE:
            found = greatest_inside(table)
            lesser = [other for other in of_orders if within(other, table)]
            if not fitting(table):
                self.assertIsNone(found)
                self.assertEqual(lesser, [])
                continue
            self.assertEqual(found, Table.of_orders(fitting(table)))
            self.assertTrue(within(found, table))
            self.assertTrue(all(within(other, found) for other in lesser))
            self.assertEqual(found == table, is_kind(table, "orders"))


if __name__ == "__main__":
    unittest.main()
