"""Points 93 to 95: next ranks listed and counted, what they can hold, and deeds that do the same."""

import inspect
import itertools
import unittest

from helpers import NO_INTEGERS, NO_ROWS, best_of, books_of, lots_of, ranks_of, refused
from newsbooks.errors import BadLot, BadWord, TooMany
from newsbooks.nexts import count_next, next_held, next_ranks, settled, turns_alike
from newsbooks.ranks import Rank
from newsbooks.turning import turned
from newsbooks.turnwishes import is_next

WORDS = ("lead", "push", "lean")
NO_WORDS = ("", "Lead", "level", "sink", "ask", "back", "put", None, 3, ["lead"], ("lead",), {})


def nexts_of(rank, lot):
    """All next ranks, listed."""
    return [later for later in ranks_of(rank.worlds) if is_next(rank, lot, later)]


RANKS = [rank for worlds in (1, 2, 3) for rank in ranks_of(worlds)] + ranks_of(4)[::6]
ALL = [(rank, lot) for rank in RANKS for lot in books_of(rank.worlds)]


class NextRanksTest(unittest.TestCase):
    def test_93_next_ranks(self):
        for rank, lot in ALL:
            wanted = nexts_of(rank, lot)
            self.assertEqual(list(next_ranks(rank, list(reversed(lot)))), wanted)
            self.assertEqual(count_next(rank, list(reversed(lot))), len(wanted))
            for word in WORDS:
                self.assertIn(turned(rank, word, lot), wanted)

    def test_93_the_order_of_the_list(self):
        rank = Rank.strict((0, 1, 2, 3))
        found = [later.cells for later in next_ranks(rank, (0, 3))]
        self.assertEqual(found[0], ((0,), (1,), (2,), (3,)))
        self.assertEqual(found[1:3], [((0,), (1,), (3,), (2,)), ((0,), (1,), (2, 3))])
        self.assertEqual(found[3:], [((0,), (3,), (1,), (2,)), ((0,), (1, 3), (2,))])
        flat = Rank.flat(3)
        self.assertEqual([later.cells for later in next_ranks(flat, (2, 1))], [((1, 2), (0,))])

    def test_93_eight_worlds_and_nine(self):
        rank = Rank.strict(tuple(range(8)))
        found = list(next_ranks(rank, (0, 5, 6, 7)))
        # Four worlds and three others, each row in its order, put side by side in all ways, alike ones too.
        self.assertEqual([len(found), count_next(rank, (0, 5, 6, 7))], [129, 129])
        self.assertTrue(all(is_next(rank, (0, 5, 6, 7), later) for later in found))
        self.assertEqual(len({later.cells for later in found}), 129)
        for worlds in (9, 12):
            nexts = next_ranks(Rank.flat(worlds), (0,))
            refused(self, TooMany(8), next, nexts)
        self.assertEqual(count_next(Rank.strict(tuple(range(12))), (0, 7, 8, 9, 10, 11)), 3653)
        self.assertEqual(count_next(Rank.flat(12), tuple(range(6))), 1)

    def test_93_refused_arguments(self):
        self.assertTrue(inspect.isgenerator(next_ranks(Rank.flat(9), "no lot")))
        for rank in (Rank.flat(3), Rank.flat(9)):
            for lot in NO_ROWS + ((), []):
                refused(self, BadLot(-1), next, next_ranks(rank, lot))
                refused(self, BadLot(-1), count_next, rank, lot)
            for entry in NO_INTEGERS + (9, -1, 2):
                refused(self, BadLot(1), next, next_ranks(rank, [2, entry, 0]))
                refused(self, BadLot(1), count_next, rank, [2, entry, 0])

    def test_94_only_one_next_rank(self):
        seen = set()
        for rank, lot in ALL:
            front = best_of(rank.levels, lot)
            pairs = itertools.product(set(lot) - set(front), set(range(rank.worlds)) - set(lot))
            only = all(rank.levels[x] < rank.levels[y] for x, y in pairs)
            self.assertEqual(count_next(rank, lot) == 1, only)
            seen.add(only)
        self.assertEqual(seen, {True, False})

    def test_94_deeds_that_give_the_same_rank(self):
        for rank, lot in ALL:
            later = {word: turned(rank, word, lot) for word in WORDS}
            for one, other in itertools.product(WORDS, repeat=2):
                self.assertIs(turns_alike(rank, list(reversed(lot)), one, other), later[one] == later[other])
            front = best_of(rank.levels, lot)
            pairs = list(itertools.product(set(range(rank.worlds)) - set(lot), set(lot) - set(front)))
            steps = [rank.levels[y] - rank.levels[x] for y, x in pairs]
            self.assertEqual(later["lead"] == later["push"], all(step > 0 for step in steps))
            self.assertEqual(later["push"] == later["lean"], all(step != 0 for step in steps))
            self.assertEqual(later["lead"] == later["lean"], all(step >= 0 for step in steps))

    def test_94_refused_arguments(self):
        rank = Rank.flat(3)
        for lot in NO_ROWS + ((), []):
            refused(self, BadLot(-1), turns_alike, rank, lot, "no word", "no word")
        for entry in NO_INTEGERS + (3, -1, 2):
            refused(self, BadLot(1), turns_alike, rank, [2, entry, 0], "no word", "no word")
        for word in NO_WORDS:
            refused(self, BadWord(word), turns_alike, rank, (0,), word, "no word")
            refused(self, BadWord(word), turns_alike, rank, (0,), "lean", word)


class HeldTest(unittest.TestCase):
    def test_95_what_next_ranks_hold_of_a_lot(self):
        for rank, lot in ALL:
            nexts = nexts_of(rank, lot)
            for asked in books_of(rank.worlds):
                wanted = sorted({best_of(later.levels, asked) for later in nexts}, key=lambda row: (len(row), row))
                found = next_held(rank, list(reversed(lot)), list(reversed(asked)))
                self.assertEqual(found, tuple(wanted), (rank.cells, lot, asked))

    def test_95_settled_lots(self):
        for worlds in (1, 2, 3, 4):
            ranks = ranks_of(worlds)
            for lot, asked in itertools.product(lots_of(worlds), repeat=2):
                one, other = set(lot), set(asked)
                right = one <= other or other <= one or not one & other
                self.assertIs(settled(list(reversed(lot)), list(reversed(asked))), right)
                if lot and asked:
                    many = [len(next_held(rank, lot, asked)) for rank in ranks]
                    self.assertEqual(all(count == 1 for count in many), right)

    def test_95_a_rank_with_more_than_one_lot(self):
        for lot, asked in itertools.product(books_of(4), repeat=2):
            if not settled(lot, asked):
                first = sorted(set(lot) - set(asked))[:1]
                second = sorted(set(asked) - set(lot))
                rest = sorted(set(range(4)) - set(first) - set(second))
                cells = [first, second] + ([rest] if rest else [])
                self.assertGreater(len(next_held(Rank(cells), lot, asked)), 1)

    def test_95_twelve_worlds(self):
        rank = Rank.strict(tuple(range(12)))
        self.assertEqual(next_held(rank, (0, 11), (5, 11)), ((5,), (11,), (5, 11)))
        self.assertEqual(next_held(rank, (0, 5), (5, 11)), ((5,),))
        self.assertEqual(next_held(rank, (3, 5), (3, 11)), ((3,),))
        self.assertEqual(next_held(Rank([(0,), tuple(range(1, 12))]), (0, 5), (5, 11)), ((5,), (5, 11)))

    def test_95_refused_lots(self):
        rank = Rank.flat(3)
        for lot in NO_ROWS + ((), []):
            refused(self, BadLot(-1), next_held, rank, lot, "no lot")
            refused(self, BadLot(-1), next_held, rank, lot, (0, 3))
            refused(self, BadLot(-1), next_held, rank, (0,), lot)
        for entry in NO_INTEGERS + (3, -1, 2):
            refused(self, BadLot(1), next_held, rank, [2, entry, 0], "no lot")
            refused(self, BadLot(1), next_held, rank, (0,), [2, entry, 0])


if __name__ == "__main__":
    unittest.main()
