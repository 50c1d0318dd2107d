"""Points 175 to 178: directed distances, the ranks of groups, weights, and news as numbers."""

import itertools
import random
import unittest

from helpers import NO_INTEGERS, NO_ROWS, books_of, lot_key, ranks_of, refused
from newsbooks.acts import act_of
from newsbooks.errors import BadDistance, BadFamily, BadGroup, BadLot, BadNews, BadNumber, TooMany
from newsbooks.groups import GroupTable
from newsbooks.groupwishes import GROUP_WISHES, group_break
from newsbooks.ranks import Rank
from newsbooks.sums import (
    Directed, news_numbers, sums_rank, sums_table, times_needed, weighted, worsts_rank, worsts_table)
from test_groups import groups_of

FAR = 10 ** 9


def some_directed(worlds, many, seed):
    """Some directed distances, always the same ones, every second one even."""
    chance = random.Random(seed)
    found = []
    for number in range(many):
        rows = [[0] * worlds for _ in range(worlds)]
        most = chance.choice((2, 3, 9))
        for x, y in itertools.permutations(range(worlds), 2):
            rows[x][y] = rows[y][x] if number % 2 and y < x else chance.randint(1, most)
        found.append(Directed(rows))
    return found


ALL = some_directed(1, 1, 175) + some_directed(2, 6, 175) + some_directed(3, 30, 175) + some_directed(4, 10, 175)
FIVES = some_directed(5, 4, 175)


def levels_by(numbers):
    return Rank.of_levels(list(numbers)).levels


class DirectedTest(unittest.TestCase):
    def test_175_ways_from_books(self):
        seen = {True: 0, False: 0}
        for directed in ALL + FIVES:
            worlds = range(directed.worlds)
            self.assertEqual(len(directed.rows), directed.worlds)
            even = all(directed.rows[x][y] == directed.rows[y][x] for x in worlds for y in worlds)
            self.assertIs(directed.is_even(), even)
            seen[even] += 1
            for book in books_of(directed.worlds):
                for x in worlds:
                    wanted = min(directed.rows[k][x] for k in book)
                    self.assertEqual(directed.far(list(reversed(book)), x), wanted)
        self.assertGreater(min(seen.values()), 10)
        ways = Directed([[0, 1, 2], [1, 0, 4], [3, 1, 0]])
        self.assertEqual([ways.far((0, 1), 2), ways.far((2,), 0), ways.far((2, 0), 2)], [2, 3, 0])

    def test_175_sums_and_worsts(self):
        for directed in ALL + FIVES[:2]:
            groups = groups_of(directed.worlds, 4 if directed.worlds < 3 else 2)
            for group in groups[::1 if directed.worlds < 4 else 7] + [((0,),) * 4, ((0,), (0,), (directed.worlds - 1,))]:
                ways = [[min(directed.rows[k][x] for k in book) for book in group] for x in range(directed.worlds)]
                turned = [list(reversed(book)) for book in reversed(group)]
                self.assertEqual(sums_rank(directed, turned).levels, levels_by(map(sum, ways)))
                self.assertEqual(worsts_rank(directed, turned).levels, levels_by(map(max, ways)))
        directed = Directed([[0, 1, 2], [1, 0, 4], [3, 1, 0]])
        self.assertEqual([sums_rank(directed, [(2,), (0,)]).cells, sums_rank(directed, [(2,), (0,), (0,)]).cells],
                         [((1, 2), (0,)), ((0, 1), (2,))])

    def test_175_tables_of_one_and_two_books(self):
        for directed in ALL[:12] + FIVES[:1]:
            books = books_of(directed.worlds)[-4:]
            groups = [(book,) for book in books] + list(itertools.combinations_with_replacement(books, 2))
            for table, make in ((sums_table(directed, books[::-1]), sums_rank),
                                (worsts_table(directed, [list(reversed(book)) for book in books]), worsts_rank)):
                self.assertIsInstance(table, GroupTable)
                self.assertEqual([table.worlds, table.groups], [directed.worlds, tuple(groups)])
                for group in groups:
                    self.assertEqual(table.rank_of(group), make(directed, group))

    def test_175_no_books_seven_and_eight(self):
        directed = ALL[10]
        books = books_of(3)
        for make in (sums_table, worsts_table):
            self.assertEqual(make(directed, []).groups, ())
            self.assertEqual(len(make(directed, books).groups), 35)
            refused(self, BadFamily(-1), make, FIVES[0], books + [(3,)])
            refused(self, BadFamily(-1), make, directed, books + [None])
            for value in NO_ROWS:
                refused(self, BadFamily(-1), make, directed, value)
            for wrong, place in (([()], 0), ([(0,), (3,)], 1), ([(0,), (1, 2), [2, 1]], 2), ([(0,), (0,), None], 1),
                                 ([(0, 0)], 0), ([(True,)], 0), ([(0,), "1"], 1)):
                refused(self, BadFamily(place), make, directed, wrong)

    def test_175_the_greatest_way_and_five_worlds(self):
        self.assertEqual(Directed([[0, FAR], [1, 0]]).far((0,), 1), FAR)
        refused(self, BadDistance(0), Directed, [[0, FAR + 1], [1, 0]])
        refused(self, BadDistance(1), Directed, [[0, FAR], [FAR + 1, 0]])
        self.assertEqual(Directed([[int(x != y) for y in range(5)] for x in range(5)]).worlds, 5)
        refused(self, BadDistance(-1), Directed, [[int(x != y) for y in range(6)] for x in range(6)])
        five = Directed([[FAR * (x != y) for y in range(5)] for x in range(5)])
        self.assertEqual(sums_rank(five, [(0,)] * 3 + [(1,)]).cells, ((0,), (1,), (2, 3, 4)))

    def test_175_one_world(self):
        directed = Directed([[0]])
        self.assertEqual([directed.is_even(), directed.far((0,), 0)], [True, 0])
        self.assertEqual([sums_rank(directed, [(0,)] * 4), worsts_rank(directed, [(0,)])], [Rank.flat(1)] * 2)
        self.assertEqual(sums_table(directed, [(0,)]).groups, (((0,),), ((0,), (0,))))

    def test_175_wrong_rows(self):
        for rows in NO_ROWS + ((), []):
            refused(self, BadDistance(-1), Directed, rows)
        good = [[0, 1, 2], [5, 0, 3], [2, 4, 0]]
        for place in range(3):
            for row in NO_ROWS + ((), [0, 1], [0, 1, 2, 3], [1, 1, 1], [0, 0, 0], [-1] * 3, [True] * 3, ["0"] * 3):
                refused(self, BadDistance(place), Directed, good[:place] + [row] + good[place + 1:])

    def test_175_wrong_books_and_groups(self):
        directed = ALL[10]
        for lot, place in (((), -1), (None, -1), ((3,), 0), ((0, 0), 1)):
            refused(self, BadLot(place), directed.far, lot, None)
        for world in NO_INTEGERS + (3, -1):
            refused(self, BadNumber("world"), directed.far, (0,), world)
        for call in (sums_rank, worsts_rank):
            for group in NO_ROWS + ((), [(0,)] * 5):
                refused(self, BadGroup(-1), call, directed, group)
            for group, place in (([()], 0), ([(0,), (3,)], 1), ([(0,), None], 1)):
                refused(self, BadGroup(place), call, directed, group)

    def test_176_wishes_of_sums_and_worsts(self):
        chance = random.Random(176)
        agreed = 0
        for directed in ALL + FIVES:
            books = chance.sample(books_of(directed.worlds), min(len(books_of(directed.worlds)), 4))
            groups = set(itertools.combinations_with_replacement(sorted(books, key=lot_key), 2))
            groups = groups | {(book,) for book in books} | {tuple(sorted(chance.choices(books, k=4), key=lot_key))}
            groups = groups | {tuple(sorted(chance.choices(books, k=3), key=lot_key)) for _ in range(4)}
            own = [GroupTable(directed.worlds, [(group, make(directed, group)) for group in groups])
                   for make in (sums_rank, worsts_rank)]
            for sums, worsts in (own, [sums_table(directed, books), worsts_table(directed, books)]):
                self.assertEqual([group_break(sums, wish) for wish in ("shared", "together", "agreed")], [None] * 3)
                self.assertEqual([group_break(worsts, wish) for wish in ("shared", "together")], [None] * 2)
                agreed += group_break(worsts, "agreed") is not None
                if directed.is_even():
                    self.assertEqual([group_break(sums, "fair"), group_break(worsts, "fair")], [None, None])
        self.assertGreater(agreed, 3)

    def test_176_fair_exactly_if_even(self):
        for directed in ALL + FIVES:
            singles = [(x,) for x in range(directed.worlds)]
            for make in (sums_table, worsts_table):
                self.assertIs(group_break(make(directed, singles), "fair") is None, directed.is_even())
        self.assertEqual(len(GROUP_WISHES), 4)


class WeightsTest(unittest.TestCase):
    def rows(self):
        chance = random.Random(177)
        found = [(list(one), list(other)) for one in itertools.product((-1, 0, 2), repeat=2)
                 for other in itertools.product((-3, 0, 4), repeat=2)]
        for _ in range(150):
            worlds = chance.randint(1, 5)
            found.append(tuple([chance.randint(-6, 6) for _ in range(worlds)] for _ in range(2)))
        return found

    def test_177_weighted_ranks(self):
        for first, second in self.rows():
            for times in (0, 1, 2, 7, 10 ** 9):
                wanted = levels_by(times * s + t for s, t in zip(first, second))
                self.assertEqual(weighted(tuple(first), second, times).levels, wanted)
            self.assertEqual(weighted(first, second, 0), Rank.of_levels(second))

    def test_177_times_needed(self):
        seen = set()
        for first, second in self.rows():
            pairs = list(itertools.product(range(len(first)), repeat=2))
            wanted = next(n for n in range(1, 99) if all(n * (first[y] - first[x]) > second[x] - second[y]
                                                         for x, y in pairs if first[x] < first[y]))
            self.assertEqual(times_needed(first, tuple(second)), wanted)
            product = Rank.of_levels(first) * Rank.of_levels(second)
            for times in range(1, wanted + 4):
                self.assertIs(weighted(first, second, times) == product, times >= wanted)
            seen.add(wanted)
        self.assertGreater(len(seen), 5)
        self.assertEqual([times_needed((0, 1, 1), (2, 0, 1)), weighted((0, 1, 1), (2, 0, 1), 2).cells],
                         [3, ((0, 1), (2,))])

    def test_177_great_weights(self):
        self.assertEqual(times_needed([FAR - 1, FAR], [FAR, -FAR]), 2 * FAR + 1)
        self.assertEqual(times_needed([0, 1], [-FAR, FAR]), 1)
        self.assertEqual(times_needed([FAR] * 12, [x * x for x in range(12)]), 1)
        self.assertEqual(weighted([-FAR, FAR], [FAR, -FAR], 1), Rank.flat(2))

    def test_177_wrong_weights(self):
        for call, more in ((weighted, (None,)), (times_needed, ())):
            for value in NO_ROWS + ((), [0] * 13, [FAR + 1], [0, -FAR - 1], [True], [1.0], [None]):
                refused(self, BadNumber("first"), call, value, None, *more)
                refused(self, BadNumber("second"), call, [0], value, *more)
            refused(self, BadNumber("second"), call, [0, 1], [0], *more)
            refused(self, BadNumber("second"), call, [0, 1], [0, 1, 2], *more)
        for times in NO_INTEGERS + (-1, -FAR):
            refused(self, BadNumber("times"), weighted, [0], [0], times)


class NewsNumbersTest(unittest.TestCase):
    def test_178_numbers_of_news(self):
        for worlds, most in ((1, 2), (2, 3), (3, 3)):
            for many in range(most + 1):
                for news in itertools.product(books_of(worlds), repeat=many):
                    found = news_numbers([list(reversed(piece)) for piece in news], worlds)
                    wanted = tuple(sum(2 ** k for k, piece in enumerate(news) if x not in piece) for x in range(worlds))
                    self.assertEqual(found, wanted)
                    self.assertEqual(Rank.of_levels(found), act_of(news, worlds))

    def test_178_older_and_newer_news(self):
        chance = random.Random(178)
        for _ in range(60):
            older, newer = [[chance.choice(books_of(4)) for _ in range(chance.randint(0, 4))] for _ in range(2)]
            times = 2 ** len(older)
            found = weighted(news_numbers(newer, 4), news_numbers(older, 4), times)
            self.assertEqual(found, act_of(older + newer, 4))
        self.assertEqual(news_numbers([(0,)] * 20, 2), (0, 2 ** 20 - 1))
        self.assertEqual(news_numbers((), 12), (0,) * 12)

    def test_178_wrong_news(self):
        for worlds in NO_INTEGERS + (0, 13):
            refused(self, BadNumber("worlds"), news_numbers, None, worlds)
        for news in NO_ROWS:
            refused(self, BadNews(-1), news_numbers, news, 3)
        for news, place in (([()], 0), ([(0,), (3,)], 1), ([(0, 0)], 0)):
            refused(self, BadNews(place), news_numbers, news, 3)
        refused(self, TooMany(20), news_numbers, [(0,)] * 21, 3)


if __name__ == "__main__":
    unittest.main()
