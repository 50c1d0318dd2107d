"""Points 2 to 6: errors, generators, worlds and lots."""

import itertools
import unittest

from helpers import NO_INTEGERS, NO_ROWS, lot_key, lots_of, refused
from newsbooks.errors import BadLot, BadNumber
from newsbooks.lots import all_lots, common, every, inside, lot_before, lot_of, meets, minus, plus, rest_of


class LotsTest(unittest.TestCase):
    def test_04_number_of_worlds(self):
        for call in (every, lambda n: lot_of((), n), lambda n: rest_of((), n), lambda n: list(all_lots(n))):
            for worlds in (0, 13, -1, 10 ** 9) + NO_INTEGERS:
                refused(self, BadNumber("worlds"), call, worlds)
        self.assertEqual([every(1), every(3), every(12)], [(0,), (0, 1, 2), tuple(range(12))])

    def test_02_worlds_are_checked_before_all_others(self):
        refused(self, BadNumber("worlds"), lot_of, "no lot", 13)
        refused(self, BadNumber("worlds"), rest_of, (0, 0), 0)
        refused(self, BadNumber("worlds"), lambda: list(all_lots(0, most=-1)))

    def test_05_lots_in_any_order(self):
        self.assertEqual(lot_of([2, 0, 1], 3), (0, 1, 2))
        self.assertEqual(lot_of((), 1), ())
        self.assertEqual(lot_of([], 1, empty=True), ())
        self.assertEqual(lot_of([11, 3], 12, empty=False), (3, 11))
        for lot in lots_of(4):
            for row in itertools.permutations(lot):
                self.assertEqual(lot_of(row, 4), lot)
                self.assertEqual(lot_of(list(row), 4), lot)
                self.assertIsInstance(lot_of(list(row), 4), tuple)

    def test_05_refused_lots(self):
        for row in NO_ROWS:
            refused(self, BadLot(-1), lot_of, row, 3)
            refused(self, BadLot(-1), rest_of, row, 3)
        for entry in (3, -1, 12, "0", None, True, False, 1.0, (0,), [0], {}):
            refused(self, BadLot(0), lot_of, (entry,), 3)
            refused(self, BadLot(2), lot_of, [2, 0, entry, 0], 3)
            refused(self, BadLot(1), rest_of, [2, entry, 2], 3)
        refused(self, BadLot(1), lot_of, (0, 0), 3)
        refused(self, BadLot(3), lot_of, (0, 2, 1, 2, 9), 3)
        refused(self, BadLot(1), lot_of, (0, 1), 1)
        refused(self, BadLot(-1), lot_of, (), 3, empty=False)
        refused(self, BadLot(-1), lot_of, [], 3, empty=False)
        refused(self, BadLot(0), lot_of, [3], 3, empty=False)

    def test_06_all_lots_in_lot_order(self):
        for worlds in range(1, 8):
            found = list(all_lots(worlds))
            self.assertEqual(found, lots_of(worlds))
            self.assertEqual(len(found), 2 ** worlds)
            self.assertEqual([found[0], found[-1]], [(), every(worlds)])
        found = list(all_lots(12))
        self.assertEqual([len(found), len(set(found)), found[-1]], [4096, 4096, every(12)])
        self.assertEqual(found, sorted(found, key=lot_key))

    def test_06_all_lots_of_at_most_so_many_worlds(self):
        for most in range(7):
            wanted = [lot for lot in lots_of(5) if len(lot) <= most]
            self.assertEqual(list(all_lots(5, most=most)), wanted)
        self.assertEqual(list(all_lots(2, most=10 ** 30)), lots_of(2))
        self.assertEqual(list(all_lots(2, most=None)), lots_of(2))
        for most in (-1, True, False, "1", 1.0, (1,)):
            refused(self, BadNumber("most"), lambda: list(all_lots(2, most=most)))

    def test_03_a_generator_checks_when_the_first_value_is_asked_for(self):
        row = all_lots(13)
        refused(self, BadNumber("worlds"), next, row)
        row = all_lots(2, most=-1)
        refused(self, BadNumber("most"), next, row)
        self.assertEqual(next(all_lots(2)), ())

    def test_06_laws_of_lots(self):
        lots = lots_of(4)
        full = every(4)
        for one in lots:
            self.assertEqual(rest_of(one, 4), tuple(sorted(set(full) - set(one))))
            for other in lots:
                self.assertEqual(plus(one, other), tuple(sorted(set(one) | set(other))))
                self.assertEqual(common(one, other), tuple(sorted(set(one) & set(other))))
                self.assertEqual(minus(one, other), tuple(sorted(set(one) - set(other))))
                self.assertIs(inside(one, other), minus(one, other) == ())
                self.assertIs(inside(one, other), common(one, other) == one)
                self.assertIs(meets(one, other), common(one, other) != ())
                self.assertIs(lot_before(one, other), lot_key(one) < lot_key(other))
                both = rest_of(plus(one, other), 4)
                self.assertEqual(both, common(rest_of(one, 4), rest_of(other, 4)))

    def test_06_arguments_in_any_order_and_of_any_size(self):
        big = 10 ** 9
        self.assertEqual(plus([big, 3], (5, 3)), (3, 5, big))
        self.assertEqual(common([big, 3, 2], (2, big)), (2, big))
        self.assertEqual(minus((big, 7, 3), [7]), (3, big))
        self.assertEqual([inside([big, 1], (0, 1, big)), inside((1, 2), [2])], [True, False])
        self.assertEqual([meets([big, 1], (big,)), meets([], (big,))], [True, False])
        self.assertEqual([lot_before([2, 0], (1, 0)), lot_before((1, 0), [0, 2])], [False, True])
        self.assertEqual([lot_before((9,), [0, 1]), lot_before([2, 1], (1, 2))], [True, False])


if __name__ == "__main__":
    unittest.main()
