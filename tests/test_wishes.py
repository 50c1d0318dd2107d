"""Points 48 to 50 and 52 to 54: wishes, kinds, and the relations, stretches and ranks behind tables."""

import itertools
import random
import unittest

from helpers import books_of, level_rows, lots_of, ranks_of, refused, sublots
from newsbooks.errors import BadComparison, BadWord
from newsbooks.ranks import Rank
from newsbooks.relations import ahead_of, is_going_on, rank_behind, relation_behind, strict_behind
from newsbooks.stretches import stretches_behind
from newsbooks.tables import Table, all_tables
from newsbooks.wishes import KINDS, WISHES, first_break, has_wish, is_kind, kinds_of

NEEDS = {
    "ringless": ["heritage", "unite"], "orders": ["heritage", "outcast"],
    "parts": ["heritage", "unite", "outcast"], "stretches": ["heritage", "unite", "outcast", "cross"],
    "rank": ["arrow"], "strict": ["heritage", "single"],
}
THREE = list(all_tables(3))


def breaks(table, wish, one, other):
    a, b = set(one), set(other)
    c_a, c_b = set(table.answer(one)), set(table.answer(other))
    if wish == "heritage":
        return a <= b and any(x in a and x not in c_a for x in c_b)
    if wish == "unite":
        return any(x not in table.answer(sorted(a | b)) for x in c_a & c_b)
    if wish == "outcast":
        return a <= b and c_b <= a and not c_a <= c_b
    if wish == "cross":
        return any(x in b and x not in c_b for x in c_a) and any(x in a and x not in c_a for x in c_b)
    if wish == "arrow":
        return a <= b and bool(c_b & a) and c_a != c_b & a
    return a == b and len(c_a) >= 2


def first_of(table, wish):
    rows = itertools.product(books_of(table.worlds), repeat=2)
    return next((row for row in rows if breaks(table, wish, *row)), None)


def some_tables(worlds, many, seed):
    """Tables of random answers, of strict orders and of relations, some of them changed at one lot."""
    chance = random.Random(seed)
    found = []
    while len(found) < many:
        shape = chance.randrange(3)
        if shape == 0:
            orders = [chance.sample(range(worlds), worlds) for _ in range(chance.randint(1, 3))]
            table = Table.of_orders(orders)
        elif shape == 1:
            order = chance.sample(range(worlds), worlds)
            ahead = [pair for pair in itertools.combinations(order, 2) if chance.random() < 0.5]
            table = Table.of_relation(worlds, ahead)
        else:
            pairs = [(lot, chance.choice(sublots(lot)[1:])) for lot in books_of(worlds)]
            table = Table(worlds, pairs)
        found.append(table)
        pairs = list(table.pairs)
        place = chance.randrange(len(pairs))
        pairs[place] = (pairs[place][0], chance.choice(sublots(pairs[place][0])[1:]))
        found.append(Table(worlds, pairs))
    return found


class WishesTest(unittest.TestCase):
    def test_48_names(self):
        self.assertEqual(WISHES, ("heritage", "unite", "outcast", "cross", "arrow", "single"))
        self.assertEqual(KINDS, ("ringless", "orders", "parts", "stretches", "rank", "strict"))

    def test_48_first_break(self):
        tables = list(all_tables(1)) + list(all_tables(2)) + THREE + some_tables(4, 60, 48)
        for table in tables:
            for wish in WISHES:
                wanted = first_of(table, wish)
                self.assertEqual(first_break(table, wish), wanted)
                self.assertIs(has_wish(table, wish), wanted is None)

    def test_48_refused_words(self):
        table = THREE[0]
        for word in ("", "Heritage", "orders", None, 3, ["heritage"], ("arrow",), b"arrow"):
            refused(self, BadWord(word), first_break, table, word)
            refused(self, BadWord(word), has_wish, table, word)
        for word in ("", "heritage", "Rank", None, 3, ["rank"], {}):
            refused(self, BadWord(word), is_kind, table, word)

    def test_48_no_wish_follows_from_the_others(self):
        three = WISHES[:3]
        for wish in three:
            others = [word for word in three if word != wish]
            self.assertTrue(any(not has_wish(t, wish) and all(has_wish(t, word) for word in others) for t in THREE))
        table = Table.of_relation(4, [(0, 1), (2, 3)])
        self.assertEqual([has_wish(table, wish) for wish in WISHES[:4]], [True, True, True, False])

    def test_49_kinds(self):
        for table in list(all_tables(2)) + THREE + some_tables(4, 60, 49):
            kinds = tuple(kind for kind in KINDS if all(first_of(table, wish) is None for wish in NEEDS[kind]))
            self.assertEqual(kinds_of(table), kinds)
            for kind in KINDS:
                self.assertIs(is_kind(table, kind), kind in kinds)
            for kind, wider in (("strict", "rank"), ("rank", "stretches"), ("stretches", "parts")):
                self.assertTrue(kind not in kinds or wider in kinds)
            self.assertEqual("parts" in kinds, "ringless" in kinds and "orders" in kinds)

    def test_49_counts(self):
        self.assertEqual(kinds_of(next(all_tables(1))), KINDS)
        for tables, counts in ((list(all_tables(2)), [3, 3, 3, 3, 3, 2]), (THREE, [25, 22, 19, 19, 13, 6])):
            self.assertEqual([sum(is_kind(table, kind) for table in tables) for kind in KINDS], counts)


class RelationsTest(unittest.TestCase):
    def test_50_relation_behind(self):
        pairs = list(itertools.permutations(range(3), 2))
        found = {}
        for size in range(len(pairs) + 1):
            for ahead in itertools.combinations(pairs, size):
                try:
                    table = Table.of_relation(3, ahead)
                except BadComparison:
                    continue
                self.assertNotIn(table.pairs, found)
                found[table.pairs] = tuple(sorted(ahead))
        for table in THREE:
            ahead = tuple((x, y) for x in range(3) for y in range(3) if x != y and table.answer((y, x)) == (x,))
            self.assertEqual(ahead_of(table), ahead)
            self.assertEqual(relation_behind(table), found.get(table.pairs))
            self.assertIs(is_kind(table, "ringless"), table.pairs in found)
            if relation_behind(table) is not None:
                self.assertEqual(relation_behind(table), ahead)
        self.assertEqual(len(found), 25)
        self.assertEqual(relation_behind(next(all_tables(1))), ())

    def test_50_relations_of_more_worlds(self):
        for table in some_tables(5, 40, 50):
            ahead = relation_behind(table)
            self.assertIs(is_kind(table, "ringless"), ahead is not None)
            if ahead is not None:
                self.assertEqual(Table.of_relation(5, ahead), table)

    def test_52_relations_that_go_on(self):
        pairs = list(itertools.product(range(3), repeat=2))
        for size in range(5):
            for row in itertools.combinations(pairs, size):
                wanted = all((x, z) in row for x, y in row for v, z in row if v == y)
                self.assertIs(is_going_on([list(pair) for pair in row]), wanted)
                self.assertIs(is_going_on(row + row), wanted)
        for table in THREE + some_tables(4, 60, 52):
            ahead = relation_behind(table)
            self.assertEqual(is_kind(table, "parts"), ahead is not None and is_going_on(ahead))


class StretchesTest(unittest.TestCase):
    def test_53_tables_of_stretches(self):
        least = {}
        for starts in itertools.product(range(3), repeat=3):
            for ends in itertools.product(range(3), repeat=3):
                if all(start <= end for start, end in zip(starts, ends)):
                    pairs = Table.of_stretches(starts, ends).pairs
                    least[pairs] = min(least.get(pairs, 9), max(ends))
        for table in THREE:
            found = stretches_behind(table)
            self.assertIs(is_kind(table, "stretches"), table.pairs in least)
            if found is None:
                self.assertNotIn(table.pairs, least)
            else:
                self.assertEqual(max(found[1]), least[table.pairs])
                self.check_stretches(table, found)

    def check_stretches(self, table, found):
        starts, ends = found
        worlds = range(table.worlds)
        self.assertIsInstance(found, tuple)
        self.assertEqual(Table.of_stretches(starts, ends), table)
        ahead = ahead_of(table)
        above = [{x for x, y in ahead if y == world} for world in worlds]
        unlike = {tuple(sorted(lot)) for lot in above}
        self.assertEqual(starts, tuple(sum(set(lot) < above[x] for lot in unlike) for x in worlds))
        later = [[starts[y] - 1 for x, y in ahead if x == world] for world in worlds]
        self.assertEqual(ends, tuple(min(row, default=max(starts)) for row in later))
        self.assertEqual([min(starts), max(starts + ends)], [0, len(unlike) - 1])

    def test_53_some_stretches(self):
        chance = random.Random(53)
        for _ in range(60):
            worlds = chance.randint(1, 6)
            starts = [chance.randint(-10 ** 12, 10 ** 12) for _ in range(worlds)]
            ends = [start + chance.randint(0, 10 ** 12) for start in starts]
            table = Table.of_stretches(starts, ends)
            self.check_stretches(table, stretches_behind(table))
            self.assertIn("stretches", kinds_of(table))
        self.assertIsNone(stretches_behind(Table.of_relation(4, [(0, 1), (2, 3)])))
        self.assertEqual(stretches_behind(next(all_tables(1))), ((0,), (0,)))


class RanksBehindTest(unittest.TestCase):
    def test_54_rank_behind(self):
        for worlds in (1, 2, 3):
            ranks = {Table.of_rank(rank).pairs: rank for rank in ranks_of(worlds)}
            self.assertEqual(len(ranks), len(level_rows(worlds)))
            for table in all_tables(worlds):
                rank = ranks.get(table.pairs)
                self.assertEqual(rank_behind(table), rank)
                self.assertIs(is_kind(table, "rank"), rank is not None)
                strict = rank if rank is not None and len(rank) == worlds else None
                self.assertEqual(strict_behind(table), strict)
                self.assertIs(is_kind(table, "strict"), strict is not None)

    def test_54_more_worlds(self):
        for rank in ranks_of(4) + [Rank.strict((3, 5, 0, 1, 4, 2)), Rank([(5, 1), (0, 2, 3), (4,)])]:
            self.assertEqual(rank_behind(Table.of_rank(rank)), rank)
        for table in some_tables(4, 60, 54):
            rank = rank_behind(table)
            self.assertIs(is_kind(table, "rank"), rank is not None)
            if rank is not None:
                self.assertEqual(Table.of_rank(rank), table)
        for order in itertools.permutations(range(4)):
            self.assertEqual(Table.of_orders([order]), Table.of_rank(Rank.strict(order)))
            self.assertEqual(strict_behind(Table.of_orders([order])), Rank.strict(order))

    def test_46_lots_of_tables(self):
        self.assertEqual([lot for lot, _ in THREE[0].pairs], lots_of(3)[1:])


if __name__ == "__main__":
    unittest.main()
