"""Points 23 to 27: first lots, counts, best lots, cells and same keeping ranks."""

import itertools
import unittest

from helpers import NO_INTEGERS, NO_ROWS, best_of, books_of, cells_of, keeping, lot_key, refused, some_lists, sublots
from newsbooks.chains import Chains
from newsbooks.comparisons import keeps
from newsbooks.errors import BadComparison, BadLot, BadNumber, TooMany
from newsbooks.firsts import best_lots, count_keeping, first_lots, in_all, in_some, keeping_ranks
from newsbooks.keeping import fewest_cells, is_spare, least_rank, most_cells, same_keeping, some_keeping
from newsbooks.ranks import Rank

LISTS = [(1, []), (1, [(0, "<=", 0)]), (1, [(0, "<", 0)])]
LISTS = LISTS + [(2, told) for told in some_lists(2, 3, 40, 1)] + [(3, told) for told in some_lists(3, 5, 150, 23)]
LISTS = LISTS + [(4, told) for told in some_lists(4, 7, 80, 24)]


def first_lots_of(told, lot):
    found = []
    for part in [row for row in sublots(lot) if row]:
        rest = set(lot) - set(part)
        led = any(x in rest and y in part for x, _, y in told)
        torn = any(sign == "<" and x in part and y in part for x, sign, y in told)
        if not led and not torn:
            found.append(part)
    return tuple(found)


class FirstLotsTest(unittest.TestCase):
    def test_23_first_lots(self):
        for worlds, told in LISTS:
            for lot in books_of(worlds):
                self.assertEqual(first_lots(worlds, told, list(reversed(lot))), first_lots_of(told, lot))
        self.assertEqual(len(first_lots(12, [], tuple(range(12)))), 4095)
        self.assertEqual(first_lots(12, [(3, "<", 3)], (3,)), ())

    def test_23_keeping_ranks_and_their_number(self):
        for worlds, told in LISTS:
            rows = sorted(map(cells_of, keeping(worlds, told)), key=lambda cells: [lot_key(cell) for cell in cells])
            found = keeping_ranks(worlds, told)
            self.assertIsInstance(found, tuple)
            self.assertEqual([rank.cells for rank in found], rows)
            self.assertEqual(count_keeping(worlds, told), len(rows))
            self.assertTrue(all(isinstance(rank, Rank) for rank in found))
        self.assertEqual(keeping_ranks(3, [(0, "<", 0)]), ())
        self.assertEqual(len(keeping_ranks(6, [])), 4683)
        refused(self, TooMany(6), keeping_ranks, 7, [])
        refused(self, TooMany(6), keeping_ranks, 12, [(0, "<", 0)])
        refused(self, BadComparison(0), keeping_ranks, 7, [None])

    def test_23_counts_of_many_worlds(self):
        self.assertEqual(count_keeping(12, []), 28091567595)
        chain = [(x, "<=", x + 1) for x in range(11)]
        self.assertEqual(count_keeping(12, chain), 2 ** 11)
        self.assertEqual(count_keeping(12, chain + [(11, "<=", 0)]), 1)
        self.assertEqual(count_keeping(12, chain + [(11, "<", 0)]), 0)

    def test_24_best_lots(self):
        for worlds, told in LISTS:
            kept = keeping(worlds, told)
            for lot in books_of(worlds):
                best = {best_of(levels, lot) for levels in kept}
                turned = list(reversed(lot))
                self.assertEqual(best_lots(worlds, told, turned), tuple(sorted(best, key=lot_key)))
                some = tuple(x for x in lot if any(x in row for row in best))
                every_one = tuple(x for x in lot if best and all(x in row for row in best))
                self.assertEqual(in_some(worlds, told, turned), some)
                self.assertEqual(in_all(worlds, told, turned), every_one)

    def test_24_chains_may_pass_any_worlds(self):
        told = [(0, "<=", 3), (3, "<", 1)]
        self.assertEqual(best_lots(4, told, (0, 1)), ((0,),))
        self.assertEqual([in_some(4, told, (1, 0)), in_all(4, told, (0, 1, 2))], [(0,), ()])

    def test_24_most_worlds_of_a_lot(self):
        self.assertEqual(len(best_lots(12, [], tuple(range(10)))), 1023)
        refused(self, TooMany(10), best_lots, 12, [], tuple(range(11)))
        refused(self, TooMany(10), best_lots, 12, [(0, "<", 0)], tuple(range(12)))
        self.assertEqual(best_lots(12, [(0, "<", 0)], (1,)), ())
        every_world = tuple(range(12))
        self.assertEqual(in_some(12, [(0, "<", 11)], every_world), every_world[:-1])
        self.assertEqual(in_all(12, [(0, "<=", x) for x in every_world], every_world), (0,))

    def test_23_refused_lots(self):
        for call in (first_lots, best_lots, in_some, in_all):
            for lot in NO_ROWS + ((), []):
                refused(self, BadLot(-1), call, 3, [], lot)
            for entry in NO_INTEGERS + (3, 2):
                refused(self, BadLot(1), call, 3, [(0, "<", 0)], [2, entry])
            refused(self, BadComparison(0), call, 3, [(0, "<", 3)], "no lot")
            refused(self, BadNumber("worlds"), call, 13, "no list", "no lot")
            refused(self, TooMany(2000), call, 3, [(0, "<", 0)] * 2001, "no lot")

    def test_25_counts_add_up(self):
        for worlds, told in LISTS:
            whole = count_keeping(worlds, told)
            for lot in books_of(worlds):
                total = 0
                for part in best_lots(worlds, told, lot):
                    alike = [(h, "<=", k) for h in part for k in part if h != k]
                    ahead = [(h, "<", z) for h in part for z in lot if z not in part]
                    total += count_keeping(worlds, told + alike + ahead)
                self.assertEqual(total, whole)
            chains = Chains(worlds, told)
            for x, y in itertools.product(range(worlds), repeat=2):
                one = count_keeping(worlds, told + [(x, "<", y)])
                other = count_keeping(worlds, told + [(y, "<=", x)])
                self.assertEqual(one + other, whole)
                if whole:
                    free = not chains.strictly(x, y) and not chains.reaches(y, x)
                    self.assertEqual(one > 0 and other > 0, free)


class CellsTest(unittest.TestCase):
    def test_26_numbers_of_cells(self):
        for worlds, told in LISTS:
            numbers = sorted(set(max(levels) + 1 for levels in keeping(worlds, told)))
            if not numbers:
                self.assertEqual([fewest_cells(worlds, told), most_cells(worlds, told)], [None, None])
            else:
                least, most = fewest_cells(worlds, told), most_cells(worlds, told)
                self.assertEqual(numbers, list(range(least, most + 1)))
                self.assertEqual(least, len(least_rank(worlds, told)))
                self.assertEqual(most, len(Chains(worlds, told).alike_lots()))
            for cells in range(1, worlds + 3):
                rank = some_keeping(worlds, told, cells)
                if cells not in numbers:
                    self.assertIsNone(rank)
                else:
                    self.assertEqual(len(rank), cells)
                    self.assertIs(keeps(rank, told), True)

    def test_26_some_keeping_of_many_worlds(self):
        told = [(x, "<=", x + 3) for x in range(9)] + [(2, "<", 0), (9, "<=", 6), (7, "<=", 8), (4, "<=", 3)]
        for cells in range(fewest_cells(12, told), most_cells(12, told) + 1):
            rank = some_keeping(12, told, cells)
            self.assertEqual(len(rank), cells)
            self.assertIs(keeps(rank, told), True)
        self.assertEqual([fewest_cells(12, told), most_cells(12, told)], [2, 11])
        self.assertIsNone(some_keeping(12, told, 10 ** 20))

    def test_26_refused_numbers_of_cells(self):
        for told in ([], [(0, "<", 0)]):
            for cells in NO_INTEGERS + (0, -1):
                refused(self, BadNumber("cells"), some_keeping, 2, told, cells)

    def test_27_spare_comparisons(self):
        for worlds, told in LISTS:
            for place in range(len(told)):
                others = told[:place] + told[place + 1:]
                wanted = keeping(worlds, others) == keeping(worlds, told)
                self.assertIs(is_spare(worlds, told, place), wanted)
            for place in NO_INTEGERS + (-1, len(told)):
                refused(self, BadNumber("place"), is_spare, worlds, told, place)

    def test_27_same_keeping_ranks(self):
        for worlds in (2, 3):
            rows = [told for count, told in LISTS if count == worlds][:45]
            for one, other in itertools.product(rows, repeat=2):
                self.assertIs(same_keeping(worlds, one, other), keeping(worlds, one) == keeping(worlds, other))
        self.assertIs(same_keeping(3, [(0, "<", 0)], [(1, "<", 2), (2, "<=", 1)]), True)
        self.assertIs(same_keeping(3, [(0, "<", 0)], []), False)
        refused(self, BadComparison(0), same_keeping, 3, [(3, "<", 0)], None)
        refused(self, BadComparison(-1), same_keeping, 3, [(0, "<", 0)], None)
        refused(self, TooMany(2000), same_keeping, 3, [(0, "<", 1)] * 2001, None)


if __name__ == "__main__":
    unittest.main()
