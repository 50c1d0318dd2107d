"""Points 34 to 37: products."""

import itertools
import unittest

from helpers import books_of, ranks_of, refused, stands
from newsbooks.errors import BadNumber, OtherWorlds
from newsbooks.products import agree, finer, led_by, opposite, products, two_cells
from newsbooks.ranks import Rank


def opposite_pairs(p, r):
    pairs = itertools.product(range(p.worlds), repeat=2)
    return [(x, y) for x, y in pairs if stands(p.levels, x, y) == -1 and stands(r.levels, x, y) == 1]


class ProductsTest(unittest.TestCase):
    def test_34_laws_of_products(self):
        for worlds in (1, 2, 3):
            for p, q, r in itertools.product(ranks_of(worlds), repeat=3):
                self.assertEqual((p * q) * r, p * (q * r))
                self.assertEqual(products(p, q, r), (p * q) * r)
        for p in ranks_of(4):
            self.assertEqual([p * p, p * Rank.flat(4), Rank.flat(4) * p, products(p)], [p] * 4)
            for r in ranks_of(4)[::4]:
                self.assertEqual(p * r * p, p * r)

    def test_34_best_by_a_product(self):
        for p, r in itertools.product(ranks_of(3), repeat=2):
            for lot in books_of(3):
                self.assertEqual((p * r).best(lot), r.best(p.best(lot)))

    def test_34_many_ranks(self):
        ranks = [Rank.two((x,), 12) for x in range(12)]
        self.assertEqual(products(*ranks), Rank.strict(tuple(range(12))))
        refused(self, BadNumber("ranks"), products)
        refused(self, OtherWorlds(2), products, Rank.flat(3), Rank.flat(3), Rank.flat(2), Rank.flat(4))

    def test_35_opposite_worlds_and_agreeing(self):
        for worlds in (1, 2, 3):
            for p, r in itertools.product(ranks_of(worlds), repeat=2):
                pairs = opposite_pairs(p, r)
                self.assertEqual(opposite(p, r), min(pairs, default=None))
                self.assertIs(agree(p, r), pairs == [])
                self.assertEqual(p * r == r * p, pairs == [])
                rows = itertools.product(p.beginnings(), r.beginnings())
                nested = all(set(one) <= set(other) or set(other) <= set(one) for one, other in rows)
                self.assertEqual(nested, pairs == [])
                if not pairs:
                    self.assertEqual(set((p * r).beginnings()), set(p.beginnings()) | set(r.beginnings()))
                for x, y in pairs:
                    self.assertTrue((p * r).is_before(x, y) and (r * p).is_before(y, x))

    def test_36_finer(self):
        for p, r in itertools.product(ranks_of(3), repeat=2):
            wanted = all(any(set(cell) <= set(other) for other in r.cells) for cell in p.cells)
            self.assertIs(finer(p, r), wanted)
            self.assertEqual(p * r == p, wanted)
            pairs = list(itertools.product(range(3), repeat=2))
            within = all(r.is_before(x, y) for x, y in pairs if p.is_before(x, y))
            self.assertEqual(p * r == r, within)
        self.assertIs(finer(Rank.strict(tuple(range(12))), Rank.flat(12)), True)

    def test_36_led_by(self):
        ranks = ranks_of(3)
        for r, goal in itertools.product(ranks, repeat=2):
            found = led_by(r, goal)
            if any(p * r == goal for p in ranks):
                self.assertEqual(found * r, goal)
            else:
                self.assertIsNone(found)

    def test_35_other_worlds(self):
        for call in (agree, opposite, finer, led_by):
            refused(self, OtherWorlds(2), call, Rank.flat(3), Rank.flat(2))
            refused(self, OtherWorlds(12), call, Rank.flat(1), Rank.flat(12))

    def test_37_ranks_of_two_cells(self):
        for worlds in (1, 2, 3, 4):
            for rank in ranks_of(worlds):
                found = two_cells(rank)
                self.assertEqual(found, tuple(Rank.two(lot, worlds) for lot in rank.beginnings()[:-1]))
                self.assertEqual([len(part) for part in found], [2] * (len(rank) - 1))
                self.assertEqual([part.held for part in found], list(rank.beginnings()[:-1]))
                for row in itertools.permutations(found):
                    if row:
                        self.assertEqual(products(*row), rank)
        self.assertEqual(two_cells(Rank.flat(3)), ())


if __name__ == "__main__":
    unittest.main()
