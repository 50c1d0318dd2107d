"""Point 172: groups of books, their order, and group tables."""

import itertools
import random
import unittest

from helpers import NO_INTEGERS, NO_ROWS, books_of, lot_key, ranks_of, refused
from newsbooks.errors import BadGroup, BadLot, BadNumber, TooMany
from newsbooks.groups import GroupTable, both_groups, group_of
from newsbooks.ranks import Rank


def groups_of(worlds, most):
    """All groups of at most so many books, in group order by the words of the document."""
    found = []
    for many in range(1, most + 1):
        found = found + list(itertools.combinations_with_replacement(books_of(worlds), many))
    return found


class GroupsTest(unittest.TestCase):
    def test_172_groups(self):
        for books in itertools.chain.from_iterable(itertools.product(books_of(2), repeat=many) for many in (1, 2, 3, 4)):
            turned = [list(reversed(book)) for book in books]
            self.assertEqual(group_of(turned, 2), tuple(sorted(books, key=lot_key)))
        self.assertEqual(group_of([(2, 0), [1], (1,), (0, 1, 2)], 3), ((1,), (1,), (0, 2), (0, 1, 2)))
        self.assertEqual(group_of(((11, 0),), 12), ((0, 11),))

    def test_172_both_groups(self):
        for one, other in itertools.product(groups_of(2, 3), repeat=2):
            self.assertEqual(both_groups(one, list(other)), tuple(sorted(one + other, key=lot_key)))
        self.assertEqual(both_groups([(1,), (0,)], (([2, 0]),)), ((0,), (1,), (0, 2)))
        self.assertEqual(len(both_groups([(0,)] * 4, [(0,)] * 4)), 8)

    def test_172_wrong_groups(self):
        for worlds in NO_INTEGERS + (0, 13):
            refused(self, BadNumber("worlds"), group_of, None, worlds)
        for books in NO_ROWS + ((), [], [(0,)] * 5, [None] * 5):
            refused(self, BadGroup(-1), group_of, books, 3)
        for books, place in (([()], 0), ([(0,), (3,)], 1), ([(0,), (0, 0), None], 1), ([(0,), (1,), "0"], 2),
                             ([(True,)], 0), ([(0,), (1,), (2,), 3], 3)):
            refused(self, BadGroup(place), group_of, books, 3)


class GroupTablesTest(unittest.TestCase):
    def test_172_told_groups_in_group_order(self):
        chance = random.Random(172)
        for worlds in (1, 2, 3):
            order = groups_of(worlds, 4 if worlds < 3 else 2)
            for _ in range(12):
                told = chance.sample(order, min(len(order), chance.randint(0, 12)))
                ranks = {group: chance.choice(ranks_of(worlds)) for group in told}
                pairs = [[[list(reversed(book)) for book in reversed(group)], rank] for group, rank in ranks.items()]
                table = GroupTable(worlds, pairs)
                self.assertEqual([table.worlds, table.groups], [worlds, tuple(group for group in order if group in told)])
                for group, rank in ranks.items():
                    self.assertEqual(table.rank_of([list(book) for book in reversed(group)]), rank)
                    for lot in books_of(worlds):
                        self.assertEqual(table.best_of(group, list(reversed(lot))), rank.best(lot))
        none = GroupTable(6, ())
        self.assertEqual([none.worlds, none.groups], [6, ()])

    def test_172_other_groups_are_not_told(self):
        table = GroupTable(3, [([(1,), (0,)], Rank.flat(3)), (((0,),), Rank.flat(3))])
        for group in NO_ROWS + ((), [(1,)], [(0,), (0,)], [(0,), (1,), (1,)], [(0,), (3,)], [(0,)] * 5, [None], [()]):
            refused(self, BadGroup(-1), table.rank_of, group)
            refused(self, BadGroup(-1), table.best_of, group, None)
        for lot, place in (((), -1), (None, -1), ((3,), 0), ((0, 0), 1)):
            refused(self, BadLot(place), table.best_of, [(0,)], lot)

    def test_172_sixty_pairs_and_one_more(self):
        groups = groups_of(3, 3)
        pairs = [(group, Rank.flat(3)) for group in groups]
        self.assertEqual(len(GroupTable(3, pairs[:60]).groups), 60)
        refused(self, TooMany(60), GroupTable, 3, pairs[:61])
        refused(self, BadGroup(60), GroupTable, 3, pairs[:60] + [pairs[4]])
        refused(self, BadGroup(61), GroupTable, 3, pairs[:61] + [None])

    def test_172_wrong_tables(self):
        flat = Rank.flat(3)
        for worlds in NO_INTEGERS + (0, 7):
            refused(self, BadNumber("worlds"), GroupTable, worlds, None)
        for ranks in NO_ROWS:
            refused(self, BadGroup(-1), GroupTable, 3, ranks)
        for entry in ((), ([(0,)],), ([(0,)], flat, flat), ([(0,)], None), ([(0,)], flat.cells), ([(0,)], Rank.flat(2)),
                      ((), flat), ([(0,)] * 5, flat), ([(0,), ()], flat), ([(3,)], flat), (None, flat), None, "ab", 3,
                      ([[2, 1]], flat)):
            refused(self, BadGroup(1), GroupTable, 3, [([(1, 2)], flat), entry])
        refused(self, BadGroup(2), GroupTable, 3, [([(0,), (1,)], flat), ([(0,)], flat), ([(1,), (0,)], Rank.two((0,), 3))])


if __name__ == "__main__":
    unittest.main()
