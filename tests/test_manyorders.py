"""Points 70 and 71: strict orders that fit told cases, torn lots, and orders that make the cases."""

import itertools
import unittest

from helpers import NO_INTEGERS, NO_ROWS, all_cases, books_of, giving, refused, some_case_rows
from newsbooks.cases import Told, told_of
from newsbooks.errors import BadNumber, BadOrder
from newsbooks.manyorders import fits_told, narrowed_told, orders_told, torn_told, why_no_orders
from newsbooks.ranks import Rank
from newsbooks.tables import Table, all_tables
from newsbooks.wishes import is_kind
from test_cases import ROWS


def first_in(order, lot):
    return next(x for x in order if x in lot)


def fitting(worlds, row):
    """All strict orders that fit the cases."""
    orders = itertools.permutations(range(worlds))
    return [order for order in orders if all(first_in(order, lot) in answer for lot, answer in row)]


def is_torn(lot, row):
    return all(any(set(told) <= set(lot) and y in told and y not in answer for told, answer in row) for y in lot)


def narrowed(row, place, world):
    return row[:place] + ((row[place][0], (world,)),) + row[place + 1:]


def makes(orders, worlds, row):
    """Whether the orders make the cases."""
    if not all(order in fitting(worlds, row) for order in orders):
        return False
    return all(set(answer) == {first_in(order, lot) for order in orders} for lot, answer in row)


class OrdersTest(unittest.TestCase):
    def test_70_orders_that_fit(self):
        for worlds, row in ROWS:
            told = Told(worlds, row)
            right = fitting(worlds, row)
            for order in itertools.permutations(range(worlds)):
                self.assertIs(fits_told(list(order), told), order in right)

    def test_70_refused_orders(self):
        told = Told(3, [((0, 1), (0,))])
        for order in NO_ROWS + ((), (0, 1), (0, 1, 2, 0)):
            refused(self, BadOrder(-1), fits_told, order, told)
        for entry in NO_INTEGERS + (3, -1, 2):
            refused(self, BadOrder(1), fits_told, [2, entry, 2], told)

    def test_70_torn_lots(self):
        for worlds, row in ROWS:
            torn = [lot for lot in books_of(worlds) if is_torn(lot, row)]
            found = torn_told(Told(worlds, row))
            self.assertEqual([found is None, torn == []], [bool(fitting(worlds, row)), bool(fitting(worlds, row))])
            if torn:
                self.assertIn(found, torn)
                self.assertTrue(all(set(lot) <= set(found) for lot in torn))

    def test_70_answers_of_one_world(self):
        for worlds in (1, 2, 3):
            singles = [case for case in all_cases(worlds) if len(case[1]) == 1]
            for row in itertools.product(singles, repeat=3):
                self.assertEqual(torn_told(Told(worlds, row)) is None, bool(giving(worlds, row)))
        both = Told(2, [((0, 1), (0, 1)), ((0, 1), (0,))])
        self.assertEqual([torn_told(both), giving(2, both.cases)], [None, []])

    def test_70_twelve_worlds_and_eighty_cases(self):
        row = [((x, x + 1), (x + 1,)) for x in range(11)] * 7
        self.assertIsNone(torn_told(Told(12, row)))
        torn = Told(12, row + [((11, 0), (0,))])
        self.assertEqual(torn_told(torn), tuple(range(12)))
        self.assertEqual(torn_told(Told(12, [((3, 5), (3,)), ((3, 5, 7), (5,)), ((3, 7), (7,))])), (3, 5, 7))
        self.assertIsNone(torn_told(Told(1, [((0,), (0,))] * 80)))

    def test_71_narrowed_cases(self):
        for worlds, row in ROWS[::2]:
            told = Told(worlds, row)
            for place, (_, answer) in enumerate(row):
                for world in answer:
                    self.assertEqual(narrowed_told(told, place, world), Told(worlds, narrowed(row, place, world)))
            self.assertEqual(told, Told(worlds, row))
        self.assertEqual(len(narrowed_told(Told(2, [((0, 1), (0, 1))] * 80), 79, 1)), 80)

    def test_71_refused_places_and_worlds(self):
        told = Told(3, [((0, 1), (0,)), ((0, 1, 2), (0, 2))])
        for place in NO_INTEGERS + (-1, 2):
            refused(self, BadNumber("place"), narrowed_told, told, place, "no world")
            refused(self, BadNumber("place"), narrowed_told, Told(3, []), 0, 0)
        for world in NO_INTEGERS + (1, 3, -1):
            refused(self, BadNumber("world"), narrowed_told, told, 1, world)

    def test_71_orders_that_make_the_cases(self):
        for worlds, row in ROWS + [(4, row) for row in some_case_rows(4, 3, 60, 71)]:
            told = Told(worlds, row)
            wrong = [(place, world) for place, (_, answer) in enumerate(row) for world in answer
                     if not fitting(worlds, narrowed(row, place, world))]
            found = orders_told(told)
            why = why_no_orders(told)
            if wrong:
                place, world = wrong[0]
                self.assertIsNone(found)
                self.assertFalse(makes(fitting(worlds, row), worlds, row))
                self.assertEqual(why, (place, world, torn_told(narrowed_told(told, place, world))))
            else:
                self.assertIsNone(why)
                self.assertTrue(makes(found, worlds, row))
                wanted = [(lot, world) for lot, answer in row for world in answer]
                self.assertEqual(len(found), len(wanted))
                for order, (lot, world) in zip(found, wanted):
                    self.assertEqual(first_in(order, lot), world)

    def test_71_no_cases(self):
        for worlds in (1, 5, 12):
            self.assertEqual([orders_told(Told(worlds, [])), why_no_orders(Told(worlds, []))], [(), None])
        self.assertEqual(orders_told(Told(1, [((0,), (0,))] * 2)), ((0,), (0,)))

    def test_71_cases_of_tables(self):
        for table in all_tables(3):
            told = told_of(table, books_of(3))
            self.assertEqual(orders_told(told) is not None, is_kind(table, "orders"))
            self.assertEqual(why_no_orders(told) is None, is_kind(table, "orders"))
        flat = told_of(Table.of_rank(Rank.flat(4)), books_of(4))
        self.assertEqual(len(orders_told(flat)), 32)


if __name__ == "__main__":
    unittest.main()
