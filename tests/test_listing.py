"""Points 41 and 42: ranks listed, and their texts."""

import itertools
import unittest

from helpers import NO_INTEGERS, lots_of, ranks_of, refused
from newsbooks.errors import BadNumber, BadRank, BadText, TooMany
from newsbooks.listing import all_ranks, count_ranks, strict_ranks
from newsbooks.ranks import Rank
from newsbooks.ranktexts import rank_from, rank_text

COUNTS = (1, 3, 13, 75, 541, 4683, 47293, 545835, 7087261, 102247563, 1622632573, 28091567595)


class ListingTest(unittest.TestCase):
    def test_41_all_ranks(self):
        for worlds in (1, 2, 3, 4, 5):
            found = list(all_ranks(worlds))
            self.assertEqual(found, ranks_of(worlds))
            self.assertEqual(len(found), COUNTS[worlds - 1])
        found = list(all_ranks(6))
        self.assertEqual(len(set(rank.cells for rank in found)), 4683)
        keys = [[(len(cell), cell) for cell in rank.cells] for rank in found]
        self.assertEqual(keys, sorted(keys))
        cells = [rank.cells for rank in all_ranks(2)]
        self.assertEqual(cells, [((0,), (1,)), ((1,), (0,)), ((0, 1),)])

    def test_41_refused_worlds(self):
        for worlds in (0, 13, -1) + NO_INTEGERS:
            refused(self, BadNumber("worlds"), lambda: list(all_ranks(worlds)))
            refused(self, BadNumber("worlds"), count_ranks, worlds)
            refused(self, BadNumber("worlds"), strict_ranks, worlds)
        for worlds in range(7, 13):
            refused(self, TooMany(6), lambda: list(all_ranks(worlds)))
            refused(self, TooMany(6), strict_ranks, worlds)

    def test_03_all_ranks_checks_when_the_first_value_is_asked_for(self):
        for worlds, error in ((0, BadNumber("worlds")), (7, TooMany(6))):
            row = all_ranks(worlds)
            refused(self, error, next, row)
        self.assertEqual(next(all_ranks(6)).cells, tuple((x,) for x in range(6)))

    def test_41_counts(self):
        self.assertEqual(tuple(count_ranks(worlds) for worlds in range(1, 13)), COUNTS)

    def test_41_strict_ranks(self):
        for worlds in (1, 2, 3, 4, 6):
            orders = itertools.permutations(range(worlds))
            self.assertEqual(strict_ranks(worlds), tuple(Rank.strict(order) for order in orders))
        self.assertIsInstance(strict_ranks(2), tuple)

    def test_41_best_lots_of_two_worlds_tell_all_ranks_apart(self):
        pairs = [lot for lot in lots_of(4) if len(lot) == 2]
        self.assertEqual(len({tuple(rank.best(lot) for lot in pairs) for rank in ranks_of(4)}), 75)


class RankTextsTest(unittest.TestCase):
    def test_42_texts(self):
        for rank, text in (([(0,)], "0"), ([(1,), (2, 0)], "1 | 0 2"), ([(2, 1, 0)], "0 1 2"),
                           ([(x,) for x in range(11, -1, -1)], "11 | 10 | 9 | 8 | 7 | 6 | 5 | 4 | 3 | 2 | 1 | 0"),
                           ([(10, 2, 9, 11), (0, 1, 3, 4, 5, 6, 7, 8)], "2 9 10 11 | 0 1 3 4 5 6 7 8")):
            self.assertEqual(rank_text(Rank(rank)), text)
            self.assertEqual(rank_from(text), Rank(rank))

    def test_42_ranks_from_their_texts(self):
        texts = set()
        for worlds in (1, 2, 3, 4):
            for rank in ranks_of(worlds):
                self.assertEqual(rank_from(rank_text(rank)), rank)
                texts.add(rank_text(rank))
        self.assertEqual(len(texts), 1 + 3 + 13 + 75)

    def test_42_refused_texts_without_a_cause(self):
        for text in (None, 3, b"0", ["0"], ("0",), Rank.flat(1), "", " ", "|", " | ", "0 |", "| 0", "0 | ", " | 0", " 0",
                     "0 ", "00", "0|1", "0 |1", "0  1", "0 |  1", "0 | | 1", "0 || 1", "01 | 0", "12", "0 | 12", "-1",
                     "+0", "a", "0,1", "0\n", "1 0", "2 1 | 0", "0 | 2 1", "\u0660", "0\t1", "0 | 1 | x", "0 0x",
                     "0 | 0 | 13", "10 11 | 012", "1 | 0 |  | 2"):
            error = refused(self, BadText(0), rank_from, text)
            self.assertIsNone(error.__cause__, text)

    def test_42_refused_texts_whose_cause_is_no_rank(self):
        for text, place in (("1", 1), ("0 0", 0), ("0 | 0", 1), ("0 | 2", 2), ("0 | 1 | 1 2", 2), ("11", 1),
                            ("1 0 1", 0), ("2 0", 1), ("0 1 | 3 | 2 2", 2), ("0 10", 1)):
            error = refused(self, BadText(0), rank_from, text)
            self.assertIs(type(error.__cause__), BadRank, text)
            self.assertEqual(error.__cause__.place, place)


if __name__ == "__main__":
    unittest.main()
