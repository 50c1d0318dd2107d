"""Points 160 and 161: distances behind pair tables, and what can be nearest."""

import itertools
import random
import unittest

from changes import (
    all_distances, all_pair_tables, answers_in, distance_with, fewest_in_ring, is_plain_ring, plain_nearest,
    put_answers, some_distances, some_pair_tables, table_with)
from helpers import NO_ROWS, books_of, level_rows, lot_key, refused, sublots
from newsbooks.distances import Distance, put_by
from newsbooks.errors import BadLot, BadRank
from newsbooks.nearest import could_be_nearest, distance_behind, must_be_nearest, put_comparisons, put_ring
from newsbooks.ranks import Rank
from test_distances import rank_rows, some_rank_rows


def pair(x, y):
    return (0, 0) if x == y else (min(x, y), max(x, y))


def plain_comparisons(table):
    """The comparisons of the table, by the words of the document."""
    answers = answers_in(table)
    found = {((0, 0), "<", row) for row in itertools.combinations(range(table.worlds), 2)}
    for (book, news), lot in answers.items():
        for a in lot:
            for b in news:
                sign = "<=" if b in lot else "<"
                for k in answers[((a,), book)]:
                    for near in answers[((b,), book)]:
                        if sign == "<" or pair(a, k) != pair(b, near):
                            found.add((pair(a, k), sign, pair(b, near)))
    return tuple(sorted(found))


def changed_tables(worlds, many, seed):
    """Tables of distances, always the same ones, with one answer changed."""
    chance = random.Random(seed)
    found = []
    for distance in some_distances(worlds, many, seed):
        answers = put_answers(distance)
        book, news = chance.choice([row for row in answers if len(row[1]) > 1 and not set(row[0]) & set(row[1])])
        found.append(table_with(worlds, {**answers, (book, news): chance.choice(sublots(news)[1:])}))
    return found


THREES = [put_by(distance) for distance in all_distances(3)]
FOURS = [put_by(distance) for distance in some_distances(4, 12, 160)]
ANY = some_pair_tables(3, 10, 160) + changed_tables(3, 40, 160)
TABLES = all_pair_tables(1) + all_pair_tables(2) + THREES + ANY


class BehindTablesTest(unittest.TestCase):
    def test_160_comparisons(self):
        for table in TABLES + FOURS[:4] + changed_tables(4, 3, 161) + some_pair_tables(4, 1, 160):
            found = put_comparisons(table)
            self.assertEqual(found, plain_comparisons(table))
            self.assertTrue(all(found[k] < found[k + 1] for k in range(len(found) - 1)))
        self.assertEqual(put_comparisons(all_pair_tables(1)[0]), ())

    def test_160_some_distance_puts_in_by_the_table_exactly_if_there_is_no_ring(self):
        known = [put_answers(distance) for worlds in (1, 2, 3) for distance in all_distances(worlds)]
        seen = {True: 0, False: 0}
        for table in TABLES:
            wanted = answers_in(table) in known
            seen[wanted] += 1
            distance = distance_behind(table)
            self.assertIs(distance is not None, wanted)
            self.assertIs(put_ring(table) is None, wanted)
            if wanted:
                self.assertIsInstance(distance, Distance)
                self.assertEqual(put_by(distance), table)
        self.assertGreater(min(seen.values()), 12)

    def test_160_four_worlds(self):
        torn = 0
        for table in FOURS + changed_tables(4, 12, 162):
            distance, ring = distance_behind(table), put_ring(table)
            self.assertEqual(distance is None, ring is not None)
            torn += distance is None
            if distance is not None:
                self.assertEqual(put_by(distance), table)
        self.assertGreater(torn, 5)

    def test_160_rings_with_the_fewest_comparisons(self):
        lengths = set()
        for table in TABLES + changed_tables(4, 6, 163):
            ring, told = put_ring(table), put_comparisons(table)
            self.assertEqual(None if ring is None else len(ring), fewest_in_ring(told))
            if ring is not None:
                self.assertTrue(set(ring) <= set(told) and is_plain_ring(list(ring)))
            lengths.add(None if ring is None else len(ring))
        self.assertTrue({None, 1, 2} <= lengths)


def by_ranks(worlds):
    """All ways to order the pairs of worlds, by the ranks of the distances."""
    found = {}
    for levels in level_rows(worlds * (worlds - 1) // 2):
        rows = distance_with(worlds, [level + 1 for level in levels]).rows
        found.setdefault(tuple(Rank.of_levels(row).cells for row in rows), []).append(rows)
    return found


class NearestTest(unittest.TestCase):
    def check(self, ranks, known, lots):
        worlds = len(ranks)
        rows = known.get(tuple(rank.cells for rank in ranks), [])
        for book, news in lots:
            wanted = tuple(sorted({plain_nearest(row, book, news) for row in rows}, key=lot_key))
            back = (list(ranks), list(reversed(book)), list(reversed(news)))
            self.assertEqual(could_be_nearest(*back), wanted)
            self.assertEqual(must_be_nearest(*back), wanted[0] if len(wanted) == 1 else None)
            if rows and set(book) & set(news):
                self.assertEqual(wanted, (tuple(x for x in book if x in news),))
            elif rows and len(book) == 1:
                self.assertEqual(wanted, (ranks[book[0]].best(news),))
        return len(rows)

    def test_161_what_could_be_nearest(self):
        many = []
        for worlds in (2, 3):
            known = by_ranks(worlds)
            for ranks in rank_rows(worlds):
                many.append(self.check(ranks, known, list(itertools.product(books_of(worlds), repeat=2))))
        known = by_ranks(4)
        chance = random.Random(161)
        for ranks in some_rank_rows(4, 12, 161):
            many.append(self.check(ranks, known, chance.sample(list(itertools.product(books_of(4), repeat=2)), 40)))
        self.assertTrue(0 in many and max(many) > 1)

    def test_161_several_lots(self):
        ranks = [Rank.two((x,), 4) for x in range(4)]
        self.assertEqual(could_be_nearest(ranks, (0, 1), (2, 3)), ((2, 3),))
        ranks = [Rank.strict((0, 2, 3, 1)), Rank.strict((1, 3, 2, 0)), Rank.strict((2, 0, 1, 3)), Rank.strict((3, 1, 0, 2))]
        self.assertEqual(could_be_nearest(ranks, (0, 1), (2, 3)), ((2,), (3,), (2, 3)))
        self.assertIsNone(must_be_nearest(ranks, (0, 1), (2, 3)))
        self.assertEqual([could_be_nearest(ranks, (0, 1), (1, 3)), must_be_nearest(ranks, (0,), (1, 3))], [((1,),), (3,)])
        ring = [Rank.strict((0, 1, 2)), Rank.strict((1, 2, 0)), Rank.strict((2, 0, 1))]
        self.assertEqual([could_be_nearest(ring, (0,), (0, 1)), must_be_nearest(ring, (0,), (0,))], [(), None])
        self.assertEqual(could_be_nearest([Rank.flat(1)], (0,), (0,)), ((0,),))

    def test_161_five_worlds(self):
        for distance in some_distances(5, 6, 161):
            for book, news in (((0, 1), (2, 3, 4)), ((4,), (0, 1)), ((1, 2, 3), (0, 4)), ((0, 1), (1, 2))):
                self.assertIn(distance.nearest(book, news), could_be_nearest(distance.ranks(), book, news))

    def test_161_wrong_arguments(self):
        good = [Rank.two((x,), 3) for x in range(3)]
        for call in (could_be_nearest, must_be_nearest):
            for ranks in NO_ROWS + ((), [Rank.two((x,), 6) for x in range(6)]):
                refused(self, BadRank(-1), call, ranks, None, None)
            refused(self, BadRank(1), call, [good[0], good[0], None], None, None)
            for lot, place in (((), -1), (None, -1), ((3,), 0), ((0, 0), 1), ((0, True), 1)):
                refused(self, BadLot(place), call, good, lot, None)
                refused(self, BadLot(place), call, good, (0,), lot)


if __name__ == "__main__":
    unittest.main()
