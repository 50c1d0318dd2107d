"""Points 16 and 17: ranks."""

import itertools
import unittest

from helpers import (
    NO_INTEGERS, NO_ROWS, best_of, books_of, cells_of, level_rows, lots_of, ranks_of, refused, stands)
from newsbooks.errors import BadLot, BadNumber, BadOrder, BadRank, OtherWorlds
from newsbooks.lots import inside
from newsbooks.ranks import Rank


class RanksTest(unittest.TestCase):
    def test_16_cells_levels_and_held(self):
        rank = Rank([[3, 0], (2,), [4, 1]])
        self.assertEqual([rank.worlds, rank.cells, rank.levels], [5, ((0, 3), (2,), (1, 4)), (0, 2, 1, 0, 2)])
        self.assertEqual([rank.held, len(rank), rank[1], list(rank)], [(0, 3), 3, (2,), list(rank.cells)])
        one = Rank(((0,),))
        self.assertEqual([one.worlds, one.cells, one.levels, one.held], [1, ((0,),), (0,), (0,)])
        most = Rank([(x,) for x in range(11, -1, -1)])
        self.assertEqual([most.worlds, most.levels], [12, tuple(range(11, -1, -1))])

    def test_16_refused_cells(self):
        for cells in NO_ROWS + ([], (), Rank([(0,)])):
            refused(self, BadRank(-1), Rank, cells)
        for cell in NO_ROWS + ((), [], (0, 12), (-1,), (True,), ("1",), (2, 2), (0,), ((1,),)):
            refused(self, BadRank(1), Rank, [(0,), cell, (9, 9)])
        refused(self, BadRank(2), Rank, [(3,), (9,), (5, 3)])
        for cells in ([(1,)], [(0,), (2,)], [(0, 2), (3,)], [(11,)], [(0,), (5, 4)]):
            refused(self, BadRank(len(cells)), Rank, cells)
        refused(self, BadRank(12), Rank, [(x,) for x in range(12)] + [(12,)])

    def test_16_places_and_order(self):
        for levels in level_rows(3):
            rank = Rank(cells_of(levels))
            self.assertEqual(rank.levels, levels)
            for x, y in itertools.product(range(3), repeat=2):
                self.assertEqual(rank.place_of(x), levels[x])
                self.assertIs(rank.is_before(x, y), levels[x] < levels[y])
                self.assertIs(rank.is_alike(x, y), levels[x] == levels[y])
        rank = Rank.flat(3)
        for world in NO_INTEGERS + (-1, 3):
            refused(self, BadNumber("world"), rank.place_of, world)
            for call in (rank.is_before, rank.is_alike):
                refused(self, BadNumber("one"), call, world, 9)
                refused(self, BadNumber("other"), call, 0, world)

    def test_16_beginnings(self):
        for rank in ranks_of(4):
            unions = [tuple(sorted(sum(rank.cells[:k], ()))) for k in range(1, len(rank) + 1)]
            self.assertEqual(rank.beginnings(), tuple(unions))
            self.assertEqual(rank.beginnings()[-1], (0, 1, 2, 3))

    def test_16_flat_strict_and_two(self):
        self.assertEqual([Rank.flat(1).cells, Rank.flat(3).cells], [((0,),), ((0, 1, 2),)])
        self.assertEqual(Rank.flat(12).levels, (0,) * 12)
        self.assertEqual(Rank.strict([2, 0, 1]).cells, ((2,), (0,), (1,)))
        self.assertEqual(Rank.strict((0,)), Rank.flat(1))
        self.assertEqual([Rank.two([2, 0], 3).cells, Rank.two((1, 0), 2).cells], [((0, 2), (1,)), ((0, 1),)])
        for worlds in (0, 13) + NO_INTEGERS:
            refused(self, BadNumber("worlds"), Rank.flat, worlds)
            refused(self, BadNumber("worlds"), Rank.two, "no lot", worlds)
        for lot in NO_ROWS + ((), []):
            refused(self, BadLot(-1), Rank.two, lot, 3)
        refused(self, BadLot(1), Rank.two, (2, 3), 3)
        for order in NO_ROWS + ((), [], tuple(range(13))):
            refused(self, BadOrder(-1), Rank.strict, order)
        for entry in (3, 0, -1, True, "1", None, (1,)):
            refused(self, BadOrder(2), Rank.strict, [1, 0, entry])
        refused(self, BadOrder(1), Rank.strict, [2, 2, 5])

    def test_17_of_levels(self):
        big = 10 ** 40
        self.assertEqual(Rank.of_levels([5, -big, big, 5]).cells, ((1,), (0, 3), (2,)))
        self.assertEqual(Rank.of_levels((7,)).cells, ((0,),))
        self.assertEqual(Rank.of_levels([-x for x in range(12)]).cells[:2], ((11,), (10,)))
        for numbers in NO_ROWS + ((), [], [0] * 13, [0, True], [0, "1"], [None], [0, 1.0], [[0]]):
            refused(self, BadNumber("numbers"), Rank.of_levels, numbers)
        for worlds in (1, 2, 3, 4):
            for rank in ranks_of(worlds):
                self.assertEqual(Rank.of_levels(rank.levels), rank)
                self.assertEqual(Rank.of_levels([3 * level - 7 for level in rank.levels]), rank)

    def test_17_best(self):
        for worlds in (1, 2, 3, 4):
            for rank in ranks_of(worlds):
                for lot in books_of(worlds):
                    best = best_of(rank.levels, lot)
                    self.assertEqual(rank.best(list(reversed(lot))), best)
                    behind = tuple(x for x in range(worlds) if rank.levels[x] > rank.levels[best[0]])
                    self.assertEqual(rank.behind_best(lot), behind)
        for call in (rank.best, rank.behind_best):
            for lot in NO_ROWS + ((), []):
                refused(self, BadLot(-1), call, lot)
            refused(self, BadLot(1), call, (1, 1))
            refused(self, BadLot(0), call, (4,))

    def test_17_product(self):
        for worlds in (1, 2, 3):
            for p, r in itertools.product(ranks_of(worlds), repeat=2):
                product = p * r
                self.assertIsInstance(product, Rank)
                for x, y in itertools.product(range(worlds), repeat=2):
                    wanted = stands(p.levels, x, y) or stands(r.levels, x, y)
                    self.assertEqual(stands(product.levels, x, y), wanted)
        refused(self, OtherWorlds(2), lambda: Rank.flat(3) * Rank.flat(2))
        refused(self, OtherWorlds(3), lambda: Rank.flat(2) * Rank.flat(3))
        self.assertRaises(TypeError, lambda: Rank.flat(2) * 2)
        most = Rank.strict(tuple(range(12)))
        self.assertEqual((Rank.flat(12) * most).cells, most.cells)

    def test_17_a_rank_is_fixed_by_its_cells_levels_or_beginnings(self):
        ranks = ranks_of(4)
        for places in (lambda r: r.cells, lambda r: r.levels, lambda r: r.beginnings()):
            self.assertEqual(len(set(places(rank) for rank in ranks)), 75)
        for one, other in itertools.product(ranks_of(3), repeat=2):
            self.assertIs(one == other, one.cells == other.cells)
            self.assertIs(one != other, one.cells != other.cells)
            self.assertEqual(one == other, one.beginnings() == other.beginnings())
        self.assertIs(Rank([[1, 0]]) == Rank([(0, 1)]), True)
        for other in (((0,),), [(0,)], None, 0, "0", (0,)):
            self.assertIs(Rank([(0,)]) == other, False)
            self.assertIs(Rank([(0,)]) != other, True)

    def test_16_items(self):
        rank = Rank.strict((2, 0, 1))
        self.assertEqual([rank[0], rank[1], rank[2]], [(2,), (0,), (1,)])
        for place in NO_INTEGERS + (-1, 3, slice(0, 1)):
            refused(self, BadNumber("place"), lambda: rank[place])
        self.assertEqual([cell for cell in rank], [(2,), (0,), (1,)])
        self.assertEqual([(2,) in rank, (1, 2) in rank, tuple(rank)], [True, False, rank.cells])

    def test_16_cells_are_disjoint_and_together_all_worlds(self):
        for rank in ranks_of(4):
            self.assertEqual(sorted(sum(rank.cells, ())), [0, 1, 2, 3])
            self.assertTrue(all(cell in lots_of(4) and cell for cell in rank))
            self.assertTrue(all(inside(rank.held, lot) for lot in rank.beginnings()))


if __name__ == "__main__":
    unittest.main()
