"""Points 157 to 159: distances, the ranks that they give each world, and the pair tables that come of them."""

import itertools
import random
import unittest

from changes import (
    all_distances, answers_in, distance_with, fewest_in_ring, is_plain_ring, put_answers, some_distances)
from helpers import NO_INTEGERS, NO_ROWS, books_of, level_rows, ranks_of, refused
from newsbooks.distances import (
    Distance, distance_ring, is_distance_ring, keeps_ways, move_by, one_distance, put_by)
from newsbooks.errors import BadDistance, BadLot, BadNumber, BadRank, TooMany
from newsbooks.pairtables import pair_break
from newsbooks.ranks import Rank
from newsbooks.tables import Table
from newsbooks.wishes import is_kind

ALL = [distance for worlds in (1, 2, 3) for distance in all_distances(worlds)]
FOURS = some_distances(4, 12, 157)
FIVES = some_distances(5, 12, 157)
FAR = 10 ** 9


def rank_rows(worlds):
    """All rows of ranks with the first cells (0,), (1,), ..."""
    able = [[rank for rank in ranks_of(worlds) if rank.held == (x,)] for x in range(worlds)]
    return list(itertools.product(*able))


def some_rank_rows(worlds, many, seed):
    """Some rows of ranks, always the same ones: any, and those of distances with one rank changed or none."""
    chance = random.Random(seed)
    able = [[rank for rank in ranks_of(worlds) if rank.held == (x,)] for x in range(worlds)]
    found = []
    for distance in some_distances(worlds, many, seed):
        found.append(tuple(chance.choice(ranks) for ranks in able))
        row = list(distance.ranks())
        found.append(tuple(row))
        place = chance.randrange(worlds)
        row[place] = chance.choice(able[place])
        found.append(tuple(row))
    return found


def pair(x, y):
    return (min(x, y), max(x, y))


def told_steps(ranks):
    """All steps that the ranks tell, by the words of the document."""
    found = []
    for x, y, z in itertools.product(range(len(ranks)), repeat=3):
        if x not in (y, z):
            if ranks[x].levels[y] < ranks[x].levels[z]:
                found.append(((x, y), "<", (x, z)))
            if ranks[x].levels[y] <= ranks[x].levels[z]:
                found.append(((x, y), "<=", (x, z)))
    return found


def compared(steps):
    return [(pair(*first), sign, pair(*second)) for first, sign, second in steps]


ROWS = rank_rows(1) + rank_rows(2) + rank_rows(3)
MANY = some_rank_rows(4, 60, 158) + some_rank_rows(5, 25, 158)


class DistancesTest(unittest.TestCase):
    def test_157_numbers_and_nearest_worlds(self):
        for distance in ALL + FOURS + FIVES:
            worlds = range(distance.worlds)
            self.assertEqual(distance.worlds, len(distance.rows))
            for x, y in itertools.product(worlds, repeat=2):
                self.assertEqual(distance.between(x, y), distance.rows[x][y])
            for book in books_of(distance.worlds):
                for news in books_of(distance.worlds):
                    gaps = {x: min(distance.rows[x][k] for k in book) for x in news}
                    wanted = tuple(x for x in news if gaps[x] == min(gaps.values()))
                    self.assertEqual(distance.nearest(list(reversed(book)), list(reversed(news))), wanted)

    def test_157_ranks_and_ways(self):
        kept = {True: 0, False: 0}
        for distance in ALL + FOURS + FIVES:
            ranks = distance.ranks()
            self.assertEqual(ranks, tuple(Rank.of_levels(row) for row in distance.rows))
            self.assertEqual([rank.held for rank in ranks], [(x,) for x in range(distance.worlds)])
            rows = distance.rows
            wanted = all(rows[x][z] <= rows[x][y] + rows[y][z]
                         for x, y, z in itertools.product(range(distance.worlds), repeat=3))
            self.assertIs(keeps_ways(distance), wanted)
            kept[wanted] += 1
        self.assertGreater(min(kept.values()), 5)
        self.assertEqual([keeps_ways(Distance([[0, 1, 3], [1, 0, 1], [3, 1, 0]])), keeps_ways(Distance([[0]]))],
                         [False, True])

    def test_157_the_greatest_number_and_five_worlds(self):
        self.assertEqual(Distance([[0, FAR], [FAR, 0]]).between(0, 1), FAR)
        refused(self, BadDistance(0), Distance, [[0, FAR + 1], [FAR + 1, 0]])
        five = [[FAR * (x != y) for y in range(5)] for x in range(5)]
        self.assertEqual(Distance(five).worlds, 5)
        refused(self, BadDistance(-1), Distance, [[FAR * (x != y) for y in range(6)] for x in range(6)])

    def test_157_wrong_rows(self):
        for rows in NO_ROWS + ((), []):
            refused(self, BadDistance(-1), Distance, rows)
        good = [[0, 1, 2], [1, 0, 3], [2, 3, 0]]
        for place in range(3):
            for row in NO_ROWS + ((), [0, 1], [0, 1, 2, 3], [1, 1, 1], [0, 0, 0], [-1] * 3, [True] * 3, [1.0] * 3):
                refused(self, BadDistance(place), Distance, good[:place] + [row] + good[place + 1:])
        refused(self, BadDistance(0), Distance, [[0, 0, 2], [0, 0, 3], [2, 3, 0]])
        refused(self, BadDistance(2), Distance, [[0, 1, 2], [1, 0, 3], [2, 3, False]])
        refused(self, BadDistance(3), Distance, [[0, 1, 2], [1, 0, 3], [2, 4, 0]])
        refused(self, BadDistance(2), Distance, [[0, 1], [2, 0]])

    def test_157_wrong_worlds_and_lots(self):
        distance = Distance([[0, 1], [1, 0]])
        for world in NO_INTEGERS + (2, -1):
            refused(self, BadNumber("one"), distance.between, world, None)
            refused(self, BadNumber("other"), distance.between, 0, world)
        for lot, place in (((), -1), (None, -1), ((2,), 0), ((0, 0), 1), ((0, True), 1)):
            refused(self, BadLot(place), distance.nearest, lot, None)
            refused(self, BadLot(place), distance.nearest, (0,), lot)


class OneDistanceTest(unittest.TestCase):
    def realizable(self):
        """The ranks of all ways to order the pairs of up to four worlds."""
        found = {tuple(rank.cells for rank in distance.ranks()) for distance in ALL}
        for levels in level_rows(6):
            rows = distance_with(4, [level + 1 for level in levels]).rows
            found.add(tuple(Rank.of_levels(row).cells for row in rows))
        return found

    def test_158_a_distance_exactly_if_no_ring(self):
        known = self.realizable()
        seen = {True: 0, False: 0}
        for ranks in ROWS + MANY:
            distance, ring = one_distance(list(ranks)), distance_ring(list(ranks))
            self.assertEqual(distance is None, ring is not None)
            if len(ranks) < 5:
                self.assertIs(tuple(rank.cells for rank in ranks) in known, distance is not None)
            seen[distance is None] += 1
            if distance is None:
                continue
            self.assertEqual(distance.ranks(), tuple(ranks))
            self.assertIs(keeps_ways(distance), True)
            numbers = [distance.between(x, y) for x, y in itertools.permutations(range(len(ranks)), 2)]
            self.assertTrue(not numbers or 1 <= min(numbers) <= max(numbers) <= 2 * min(numbers))
        self.assertGreater(min(seen.values()), 30)

    def test_158_rings_with_the_fewest_steps(self):
        lengths = set()
        for ranks in ROWS + MANY[::2]:
            ring = distance_ring(ranks)
            many = fewest_in_ring(compared(told_steps(ranks)))
            self.assertEqual(None if ring is None else len(ring), many)
            if ring is not None:
                self.assertTrue(set(ring) <= set(told_steps(ranks)))
                self.assertTrue(is_plain_ring(compared(ring)))
                self.assertIs(is_distance_ring(ranks, ring), True)
            lengths.add(many)
        self.assertTrue({None, 3} <= lengths)

    def test_158_rings_around_four_and_five_worlds(self):
        """Each world has the one behind it nearer than the one ahead, and all others farthest."""
        for worlds in (3, 4, 5):
            ranks = []
            for x in range(worlds):
                behind, ahead = (x - 1) % worlds, (x + 1) % worlds
                others = [y for y in range(worlds) if y not in (x, behind, ahead)]
                ranks.append(Rank([cell for cell in [[x], [behind], [ahead], others] if cell]))
            ring = distance_ring(ranks)
            self.assertEqual([len(ring), fewest_in_ring(compared(told_steps(ranks)))], [worlds, worlds])
            self.assertIs(is_distance_ring(ranks, ring), True)
            ranks[0] = Rank.two((0,), worlds)
            self.assertIsNotNone(distance_ring(ranks))
            ranks[0] = Rank([cell for cell in [(0,), (1,), (worlds - 1,), tuple(range(2, worlds - 1))] if cell])
            self.assertEqual([distance_ring(ranks), one_distance(ranks).ranks()], [None, tuple(ranks)])

    def test_158_all_rings_of_three_worlds(self):
        steps = [((x, y), sign, (x, z)) for x, y, z in itertools.product(range(3), repeat=3) for sign in ("<", "<=")
                 if x not in (y, z)]
        pairs = list(itertools.permutations(range(3), 2))
        wild = [(first, sign, last) for first in pairs for sign in ("<", "<=") for last in pairs]
        found = {True: 0, False: 0}
        for ranks in ROWS[2::4]:
            told = told_steps(ranks)
            for kinds, many in ((wild, 0), (wild, 1), (wild, 2), (steps, 3)):
                for ring in itertools.product(kinds, repeat=many):
                    wanted = set(ring) <= set(told) and is_plain_ring(compared(ring))
                    found[wanted] += 1
                    self.assertIs(is_distance_ring(ranks, ring), wanted)
        self.assertGreater(min(found.values()), 5)

    def test_158_what_is_no_ring(self):
        ranks = [Rank.strict((0, 1, 2)), Rank.strict((1, 2, 0)), Rank.strict((2, 0, 1))]
        ring = [((0, 1), "<", (0, 2)), ((2, 0), "<", (2, 1)), ((1, 2), "<", (1, 0))]
        self.assertIs(is_distance_ring(ranks, [[list(first), sign, list(last)] for first, sign, last in ring]), True)
        self.assertIs(is_distance_ring(ranks, [ring[0][:1] + ("<=",) + ring[0][2:]] + ring[1:]), True)
        self.assertIs(is_distance_ring(ranks, tuple(ring[1:] + ring[:1])), True)
        for value in NO_ROWS + ((), ring[:2], ring + ring, ring[::-1], [None], [ring[0], ring[1], None], "abc"):
            self.assertIs(is_distance_ring(ranks, value), False)
        for step in ((), (0, 1), ((1, 2), "<"), ((1, 2), "<", (1, 0), 1), ((1, 2), "=", (1, 0)), ((1, 2), None, (1, 0)),
                     ((1, 2), ["<"], (1, 0)), (None, "<", (1, 0)), ((1, 2), "<", "10"), ((1, 2), "<", (0, 1)),
                     ((2, 1), "<", (1, 0)), ((1, 2), "<", (True, 0)), ((1, 2), "<", (1, False)), ((1, 2), "<", (1,)),
                     ((1, 2), "<", (1, 0, 0)), ((1, 2), "<", (1, 1)), ((1, 3), "<", (1, 0)), ((1, 0), "<", (1, 2)),
                     ((1.0, 2), "<", (1, 0)), ((1, 2), "<", (-2, 0))):
            self.assertIs(is_distance_ring(ranks, ring[:2] + [step]), False, step)

    def test_158_wrong_ranks(self):
        good = [Rank.two((x,), 3) for x in range(3)]
        for call in (one_distance, distance_ring, lambda ranks: is_distance_ring(ranks, None)):
            for ranks in NO_ROWS + ((), []):
                refused(self, BadRank(-1), call, ranks)
            refused(self, BadRank(-1), call, [Rank.two((x,), 6) for x in range(6)])
            for place in range(3):
                for rank in (None, 3, Rank.two((place,), 4), Rank.flat(3), good[place - 1], good[place].cells):
                    refused(self, BadRank(place), call, good[:place] + [rank] + good[place + 1:])
            refused(self, BadRank(0), call, good[:2])
        five = one_distance([Rank.two((x,), 5) for x in range(5)])
        self.assertEqual(five.ranks(), tuple(Rank.two((x,), 5) for x in range(5)))
        self.assertEqual(one_distance([Rank.flat(1)]).rows, ((0,),))


class TablesOfDistancesTest(unittest.TestCase):
    def test_159_put_in_and_moved(self):
        for distance in ALL + FOURS:
            put, move = answers_in(put_by(distance)), answers_in(move_by(distance))
            self.assertEqual(put, put_answers(distance))
            for (book, news), lot in move.items():
                union = {y for x in book for y in put[((x,), news)]}
                self.assertEqual(set(lot), union)
                self.assertTrue(set(put[(book, news)]) <= set(lot))
                near = all(set(put[((x,), news)]) <= set(put[(book, news)]) for x in book)
                self.assertIs(put[(book, news)] == lot, near)

    def test_159_wishes(self):
        for distance in ALL + FOURS[:6]:
            put, move = put_by(distance), move_by(distance)
            self.assertEqual([pair_break(move, "stays"), pair_break(move, "both")], [None, None])
            self.assertEqual([pair_break(put, "stays"), pair_break(put, "keep")], [None, None])
            for book in books_of(distance.worlds):
                self.assertIs(is_kind(put.row_for(book), "rank"), True)
            for x, rank in enumerate(distance.ranks()):
                self.assertEqual(move.row_for((x,)), Table.of_rank(rank))

    def test_159_same_ranks_and_same_order_of_numbers(self):
        by_ranks = {}
        for distance in all_distances(4)[::40]:
            by_ranks.setdefault(tuple(rank.cells for rank in distance.ranks()), []).append(distance)
        for cells in list(by_ranks)[:12]:
            first = by_ranks[cells][0]
            other = one_distance([Rank(row) for row in cells])
            self.assertEqual(move_by(first), move_by(other))
        one = distance_with(4, [1, 2, 2, 2, 2, 1])
        other = distance_with(4, [2, 3, 3, 3, 3, 1])
        self.assertEqual([one.ranks(), move_by(one)], [other.ranks(), move_by(other)])
        self.assertNotEqual(one.rows, other.rows)
        for distance in ALL[::2] + FOURS[:4]:
            for change in (lambda number: 7 * number, lambda number: number ** 2 + 5 * (number > 0)):
                other = Distance([[change(number) for number in row] for row in distance.rows])
                self.assertEqual([put_by(other), move_by(other)], [put_by(distance), move_by(distance)])

    def test_159_more_than_four_worlds(self):
        for distance in FIVES[:2]:
            refused(self, TooMany(4), put_by, distance)
            refused(self, TooMany(4), move_by, distance)


if __name__ == "__main__":
    unittest.main()
