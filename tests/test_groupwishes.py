"""Points 173 and 174: wishes about the ranks of groups, and their shapes."""

import itertools
import random
import unittest

from helpers import books_of, lot_key, ranks_of, refused, stands
from newsbooks.errors import BadWord
from newsbooks.groups import GroupTable
from newsbooks.groupwishes import GROUP_WISHES, group_break, group_shape
from newsbooks.ranks import Rank
from newsbooks.sums import Directed, sums_rank, worsts_rank
from test_groups import groups_of


def both(one, other):
    return tuple(sorted(one + other, key=lot_key))


def some_tables():
    """Some group tables, always the same ones: of sums and worsts, with a rank changed, and of any ranks."""
    chance = random.Random(173)
    found = [GroupTable(worlds, []) for worlds in (1, 6)]
    for number in range(150):
        worlds = chance.choice((1, 2, 2, 3, 3, 4))
        books = chance.sample(books_of(worlds), min(len(books_of(worlds)), chance.randint(1, 3)))
        groups = [(book,) for book in books]
        groups = groups + [tuple(sorted(pair, key=lot_key)) for pair in itertools.combinations_with_replacement(books, 2)]
        groups = groups + [both(groups[0], group) for group in groups[len(books):]][:chance.randint(0, 3)]
        groups = list(dict.fromkeys(groups))
        rows = [[0] * worlds for _ in range(worlds)]
        for x, y in itertools.permutations(range(worlds), 2):
            rows[x][y] = chance.randint(1, 3) if number % 3 or x < y else rows[y][x]
        directed, make = Directed(rows), chance.choice((sums_rank, worsts_rank))
        ranks = [make(directed, group) for group in groups]
        if number % 2:
            ranks[chance.randrange(len(groups))] = chance.choice(ranks_of(worlds))
        if number % 10 == 9:
            ranks = [chance.choice(ranks_of(worlds)) for _ in groups]
        found.append(GroupTable(worlds, list(zip(groups, ranks))))
    return found


TABLES = some_tables()


def fails(table, wish, group, other, lot):
    """Whether the wish falls there, by the words of the document."""
    best = set(table.best_of(group, lot))
    if wish == "shared":
        part = set(group[0]).intersection(*group[1:])
        return lot == tuple(range(table.worlds)) and bool(part) and best != part
    if wish == "fair":
        if len(group) != 2 or not set(group[0]) | set(group[1]) <= set(lot):
            return False
        return bool(best & set(group[0])) != bool(best & set(group[1]))
    if both(group, other) not in table.groups:
        return False
    second, joined = set(table.best_of(other, lot)), set(table.best_of(both(group, other), lot))
    if wish == "together":
        return not best & second <= joined
    return bool(best & second) and not joined <= best & second


def least_break(table, wish):
    others = [()] if wish in ("shared", "fair") else table.groups
    for row in itertools.product(table.groups, others, books_of(table.worlds)):
        if fails(table, wish, *row):
            return row
    return None


def has_shape(table, wish):
    """The shape of point 174."""
    worlds = range(table.worlds)
    for group in table.groups:
        rank = table.rank_of(group)
        part = set(group[0]).intersection(*group[1:])
        if wish == "shared" and part and set(rank.cells[0]) != part:
            return False
        if wish == "fair" and len(group) == 2:
            least = [min(rank.levels[x] for x in book) for book in group]
            if least[0] != least[1]:
                return False
        for other in table.groups if wish in ("together", "agreed") else []:
            if both(group, other) not in table.groups:
                continue
            second, joined = table.rank_of(other), table.rank_of(both(group, other))
            for x, y in itertools.product(worlds, repeat=2):
                one, two, three = [stands(row.levels, x, y) for row in (rank, second, joined)]
                if wish == "together" and one <= 0 and two <= 0 and three > 0:
                    return False
                if wish == "agreed" and one <= 0 and two <= 0 and -1 in (one, two) and three >= 0:
                    return False
    return True


class GroupWishesTest(unittest.TestCase):
    def test_173_the_least_break(self):
        self.assertEqual(GROUP_WISHES, ("shared", "fair", "together", "agreed"))
        kept = {(wish, right): 0 for wish in GROUP_WISHES for right in (True, False)}
        for table in TABLES:
            for wish in GROUP_WISHES:
                found = group_break(table, wish)
                self.assertEqual(found, least_break(table, wish))
                kept[(wish, found is None)] += 1
        self.assertGreater(min(kept.values()), 8)

    def test_174_no_break_exactly_if_the_shape(self):
        for table in TABLES:
            for wish in GROUP_WISHES:
                wanted = has_shape(table, wish)
                self.assertIs(group_shape(table, wish), wanted)
                self.assertIs(group_break(table, wish) is None, wanted)

    def test_174_all_tables_of_two_worlds(self):
        ranks = ranks_of(2)
        for groups in ([((0,),), ((0,), (0,))], [((0,),), ((1,),), ((0,), (1,))], [((0, 1),), ((0,), (0, 1))],
                       [((0,),), ((0,), (1,)), ((0,), (0,), (1,))]):
            for row in itertools.product(ranks, repeat=len(groups)):
                table = GroupTable(2, list(zip(groups, row)))
                for wish in GROUP_WISHES:
                    self.assertEqual(group_break(table, wish), least_break(table, wish))
                    self.assertIs(group_shape(table, wish), least_break(table, wish) is None)

    def test_173_told_groups_alone_and_a_group_with_itself(self):
        one, two = Rank.strict((0, 1, 2)), Rank.strict((1, 0, 2))
        table = GroupTable(3, [([(0,)], one), ([(1,)], two)])
        self.assertEqual([group_break(table, wish) for wish in GROUP_WISHES], [None] * 4)
        table = GroupTable(3, [([(0,)], one), ([(0,), (0,)], two)])
        self.assertEqual(group_break(table, "together"), (((0,),), ((0,),), (0, 1)))
        self.assertEqual(group_break(table, "agreed"), (((0,),), ((0,),), (0, 1)))
        self.assertEqual(group_break(table, "shared"), (((0,), (0,)), (), (0, 1, 2)))
        self.assertIsNone(group_break(table, "fair"))
        table = GroupTable(3, [([(0,)], Rank.flat(3)), ([(0,), (0,)], one)])
        self.assertEqual(group_break(table, "together"), (((0,),), ((0,),), (0, 1)))
        self.assertIsNone(group_break(table, "agreed"))
        self.assertEqual([group_shape(table, wish) for wish in ("together", "agreed")], [False, True])
        table = GroupTable(3, [([(0,), (1,)], one), ([(0,), (1,), (2,)], one)])
        self.assertEqual([group_break(table, "fair"), group_break(table, "shared")], [(((0,), (1,)), (), (0, 1)), None])

    def test_173_other_words(self):
        for wish in ("", "Shared", "stays", None, 3, ["fair"], ("fair",), {}):
            refused(self, BadWord(wish), group_break, TABLES[0], wish)
            refused(self, BadWord(wish), group_shape, TABLES[0], wish)


if __name__ == "__main__":
    unittest.main()
