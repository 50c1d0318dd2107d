"""Points 65, 68 and 69: long rings, few asks, and families that tell all ranks apart."""

import itertools
import unittest

from helpers import NO_INTEGERS, NO_ROWS, best_of, books_of, giving, level_rows, lots_of, ranks_of, refused
from newsbooks.cases import Told
from newsbooks.errors import BadFamily, BadNumber
from newsbooks.fewasks import asks_for, long_ring, tells_apart, unseen_pair
from newsbooks.ranks import Rank
from newsbooks.untold import arrow_break, count_told, is_told_ring, rank_told, told_ring


def apart(family, worlds):
    """Whether each two unlike ranks have unlike best lots of some lot of the family."""
    answers = [tuple(best_of(levels, lot) for lot in family) for levels in level_rows(worlds)]
    return len(set(answers)) == len(answers)


class LongRingTest(unittest.TestCase):
    def test_65_long_rings(self):
        for worlds in range(3, 13):
            told = long_ring(worlds)
            cases = [((x, x + 1), (x,)) for x in range(worlds - 1)] + [((0, worlds - 1), (worlds - 1,))]
            self.assertEqual([told.cases, told.worlds], [tuple(cases), worlds])
            self.assertEqual([rank_told(told), count_told(told), arrow_break(told)], [None, 0, None])
            self.assertEqual(len(told_ring(told)), worlds)
            for place in range(worlds):
                others = Told(worlds, told.cases[:place] + told.cases[place + 1:])
                self.assertTrue(others.given_by(rank_told(others)))

    def test_65_each_told_ring_has_all_steps(self):
        for worlds in (3, 4):
            told = long_ring(worlds)
            steps = [(k,) + entry for k, entry in zip(told.sources, told.comparisons)]
            self.assertEqual(len(steps), worlds)
            for many in range(worlds + 1):
                for ring in itertools.permutations(steps, many):
                    turns = [tuple(steps[k:] + steps[:k]) for k in range(worlds)]
                    self.assertIs(is_told_ring(told, ring), ring in turns)

    def test_65_refused_numbers(self):
        for worlds in NO_INTEGERS + (1, 2, 0, -3, 13):
            refused(self, BadNumber("worlds"), long_ring, worlds)


class FewAsksTest(unittest.TestCase):
    def test_68_few_asks(self):
        for worlds in (1, 2, 3, 4):
            for rank in ranks_of(worlds):
                told = asks_for(rank)
                wanted = []
                for k, cell in enumerate(rank.cells):
                    lot = tuple(sorted(x for part in rank.cells[k:] for x in part))
                    if k < len(rank.cells) - 1 or len(cell) > 1:
                        wanted.append((lot, cell))
                self.assertEqual([told.cases, told.worlds], [tuple(wanted), worlds])
                self.assertEqual(giving(worlds, told.cases), [rank.levels])
                self.assertEqual([rank_told(told), count_told(told)], [rank, 1])

    def test_68_fewer_cases_are_given_by_other_ranks(self):
        for worlds in (1, 2, 3, 4):
            lots = books_of(worlds)
            ranks = ranks_of(worlds)
            answers = {rank.levels: [best_of(rank.levels, lot) for lot in lots] for rank in ranks}
            # Of ranks that differ in the names of their worlds alone, one is enough.
            shapes = {tuple(map(len, rank.cells)): rank for rank in ranks}
            for rank in shapes.values():
                mine = answers[rank.levels]
                others = [row for levels, row in answers.items() if levels != rank.levels]
                for many in range(len(asks_for(rank))):
                    for places in itertools.combinations(range(len(lots)), many):
                        self.assertTrue(any(all(row[k] == mine[k] for k in places) for row in others))

    def test_68_flat_and_strict_ranks_of_twelve_worlds(self):
        whole = tuple(range(12))
        self.assertEqual(asks_for(Rank.flat(12)).cases, ((whole, whole),))
        told = asks_for(Rank.strict(tuple(reversed(range(12)))))
        self.assertEqual(told.cases, tuple((tuple(range(k)), (k - 1,)) for k in range(12, 1, -1)))
        self.assertEqual(asks_for(Rank.flat(1)).cases, ())

    def test_69_families_that_tell_all_ranks_apart(self):
        for worlds in (1, 2, 3):
            books = books_of(worlds)
            for places in lots_of(len(books)):
                family = [list(reversed(books[k])) for k in places]
                pairs = [lot for lot in books if len(lot) == 2 and list(reversed(lot)) not in family]
                self.assertEqual(unseen_pair(family, worlds), pairs[0] if pairs else None)
                self.assertIs(tells_apart(family, worlds), apart(family, worlds))

    def test_69_four_worlds(self):
        pairs = [lot for lot in books_of(4) if len(lot) == 2]
        self.assertTrue(tells_apart(pairs, 4) and apart(pairs, 4))
        for gone in pairs:
            family = [lot for lot in books_of(4) if lot != gone]
            self.assertEqual([unseen_pair(family, 4), tells_apart(family, 4), apart(family, 4)], [gone, False, False])
            first = tuple(x for x in range(4) if x not in gone)
            one = Rank.strict(first + gone)
            other = Rank.strict(first + gone[::-1])
            self.assertEqual([one.best(lot) for lot in family], [other.best(lot) for lot in family])
        self.assertEqual(unseen_pair([], 12), (0, 1))
        self.assertEqual([unseen_pair([], 1), tells_apart([], 1), tells_apart([], 2)], [None, True, False])

    def test_69_refused_families(self):
        twelve = [lot for lot in books_of(12) if len(lot) == 2]
        self.assertTrue(tells_apart(twelve + twelve[:14], 12))
        for call in (unseen_pair, tells_apart):
            for worlds in NO_INTEGERS + (0, 13):
                refused(self, BadNumber("worlds"), call, "no family", worlds)
            for family in NO_ROWS + ([(0, 1)] * 81, [()] * 81):
                refused(self, BadFamily(-1), call, family, 3)
            for lot in NO_ROWS + ((), [], (3,), (1, 1), (True,)):
                refused(self, BadFamily(1), call, [(0, 1), lot, None], 3)
                refused(self, BadFamily(79), call, [(0, 1)] * 79 + [lot], 3)


if __name__ == "__main__":
    unittest.main()
