"""Points 166 to 171: pair rules, what they merge, and which of them always do."""

import itertools
import random
import unittest

from helpers import NO_INTEGERS, NO_ROWS, cells_of, level_rows, ranks_of, refused
from newsbooks.errors import BadGroup, BadNumber, BadRule, OtherWorlds
from newsbooks.journals import gives, journal_of
from newsbooks.pairrules import (
    PairRule, always_merges, bad_ranks, is_unanimous, merged, row_behind, rules_counted, sign_at)
from newsbooks.products import products
from newsbooks.ranks import Rank
from stores import all_deeds, some_journals, given_by

NO_SIGNS = (2, -2, True, False, None, "1", 1.0, (1,))


def sign_rows(many):
    return list(itertools.product((-1, 0, 1), repeat=many))


def contrary(row):
    return tuple(-sign for sign in row)


def rule_with(many, signs):
    """The rule that gives the sign rows ahead of that of zeros these signs."""
    rows = sign_rows(many)
    half = rows[:len(rows) // 2]
    pairs = dict(zip(half, signs))
    pairs = {**pairs, **{contrary(row): -sign for row, sign in pairs.items()}, (0,) * many: 0}
    return PairRule(many, list(pairs.items()))


def all_rules(many):
    return [rule_with(many, signs) for signs in itertools.product((-1, 0, 1), repeat=(3 ** many - 1) // 2)]


def all_places(many):
    """All places of pair rules of so many ranks."""
    found = []
    for count in range(many + 1):
        for numbers in itertools.permutations(range(many), count):
            for ways in itertools.product((1, -1), repeat=count):
                found.append(tuple(zip(numbers, ways)))
    return found


def some_rules(seed, count):
    """Some rules of three ranks, always the same ones: any, and those of places with a sign changed."""
    chance = random.Random(seed)
    rows = sign_rows(3)[:13]
    found = []
    for _ in range(count):
        found.append(rule_with(3, [chance.choice((-1, 0, 1)) for _ in rows]))
        places = chance.choice(all_places(3))
        signs = [plain_sign(row, places) for row in rows]
        signs[chance.randrange(13)] = chance.choice((-1, 0, 1))
        found.append(rule_with(3, signs))
    return found


def plain_sign(row, places):
    for number, way in places:
        if row[number]:
            return way * row[number]
    return 0


def sign(levels, x, y):
    return (levels[x] < levels[y]) - (levels[x] > levels[y])


def plain_merged(rule, ranks):
    """The cells of the only rank with the signs that the rule gives, by a search among all ranks; None if none has."""
    worlds = range(ranks[0].worlds)
    signs = {(x, y): dict(rule.pairs)[tuple(sign(rank.levels, x, y) for rank in ranks)] for x in worlds for y in worlds}
    for levels in level_rows(len(worlds)):
        if all(sign(levels, x, y) == mine for (x, y), mine in signs.items()):
            return cells_of(levels)
    return None


def cells(rank):
    return None if rank is None else rank.cells


def turned_round(rank):
    return Rank(rank.cells[::-1])


TWOS = all_rules(2)
ONES = all_rules(1)


class PairRulesTest(unittest.TestCase):
    def test_166_signs_of_sign_rows(self):
        for rule in ONES + TWOS + some_rules(166, 10):
            rows = sign_rows(rule.size)
            self.assertEqual([row for row, _ in rule.pairs], rows)
            for row, mine in rule.pairs:
                self.assertEqual([rule.sign_of(row), rule.sign_of(list(contrary(row)))], [mine, -mine])
            self.assertEqual(rule.sign_of((0,) * rule.size), 0)
            turned = [[list(row), mine] for row, mine in reversed(rule.pairs)]
            same = PairRule(rule.size, turned)
            self.assertEqual([same.pairs, same.size, same == rule], [rule.pairs, rule.size, True])
        self.assertEqual([len(ONES), len(TWOS)], [3, 81])

    def test_166_equal_rules(self):
        for one, other in itertools.product(range(81), repeat=2):
            self.assertIs(TWOS[one] == TWOS[other], one == other)
        for other in (None, 3, TWOS[0].pairs, ONES[0], Rank.flat(2)):
            self.assertIs(TWOS[0] == other, False)

    def test_166_wrong_rules(self):
        pairs = list(TWOS[5].pairs)
        for many in NO_INTEGERS + (0, 4, -1):
            refused(self, BadNumber("many"), PairRule, many, None)
        for value in NO_ROWS:
            refused(self, BadRule(-1), PairRule, 2, value)
        wrong = [(), ((0, 0),), ((0, 0), 0, 0), ((0,), 0), ((0, 0, 0), 0), (None, 0), ("00", 0), None, "ab", 5]
        wrong += [((0, 0), value) for value in NO_SIGNS] + [((value, 0), 0) for value in NO_SIGNS]
        for entry in wrong:
            for place in (0, 4, 9):
                refused(self, BadRule(place), PairRule, 2, pairs[:place] + [entry] + pairs[place:])
        refused(self, BadRule(9), PairRule, 2, pairs + [pairs[3]])
        for gone in range(9):
            refused(self, BadRule(8), PairRule, 2, pairs[:gone] + pairs[gone + 1:])
        for place, (row, mine) in enumerate(pairs):
            for other in {-1, 0, 1} - {mine}:
                refused(self, BadRule(9), PairRule, 2, pairs[:place] + [(row, other)] + pairs[place + 1:])
        refused(self, BadRule(0), PairRule, 1, [])

    def test_166_wrong_sign_rows(self):
        for row in NO_ROWS + ((), (0,), (0, 0, 0)) + tuple((value, 0) for value in NO_SIGNS):
            refused(self, BadRule(-1), TWOS[7].sign_of, row)

    def test_168_rules_of_places(self):
        for many in (1, 2, 3):
            for places in all_places(many):
                rule = PairRule.of_row(many, [list(entry) for entry in places])
                self.assertEqual(rule.pairs, tuple((row, plain_sign(row, places)) for row in sign_rows(many)))
                self.assertEqual(row_behind(rule), places)
                self.assertIs(always_merges(rule), True)
                self.assertIsNone(bad_ranks(rule))

    def test_168_wrong_places(self):
        for many in NO_INTEGERS + (0, 4):
            refused(self, BadNumber("many"), PairRule.of_row, many, None)
        for value in NO_ROWS:
            refused(self, BadRule(-1), PairRule.of_row, 2, value)
        for entry in ((2, 1), (-1, 1), (0, 0), (0, 2), (1, -2), (0, True), (True, 1), (0,), (0, 1, 1), None, "01", 3,
                      (None, 1), (0, None)):
            refused(self, BadRule(0), PairRule.of_row, 2, [entry])
            refused(self, BadRule(1), PairRule.of_row, 2, [(1, 1), entry])
        refused(self, BadRule(1), PairRule.of_row, 2, [(1, 1), (1, -1)])
        refused(self, BadRule(2), PairRule.of_row, 3, [(1, 1), (2, -1), [1, 1]])


class MergedTest(unittest.TestCase):
    def test_166_signs_of_ranks(self):
        for rank in ranks_of(1) + ranks_of(3):
            for x, y in itertools.product(range(rank.worlds), repeat=2):
                self.assertEqual(sign_at(rank, x, y), 1 if rank.is_before(x, y) else -1 if rank.is_before(y, x) else 0)
        for world in NO_INTEGERS + (3, -1):
            refused(self, BadNumber("one"), sign_at, Rank.flat(3), world, None)
            refused(self, BadNumber("other"), sign_at, Rank.flat(3), 2, world)

    def test_167_merged_ranks(self):
        seen = {True: 0, False: 0}
        rules = [(rule, 3) for rule in ONES + TWOS] + [(rule, 3) for rule in some_rules(167, 8)]
        for rule, worlds in rules:
            rows = list(itertools.product(ranks_of(worlds), repeat=rule.size))
            for ranks in rows[::1 if rule.size == 1 else 4 if rule.size == 2 else 40]:
                found = merged(rule, list(ranks))
                self.assertEqual(cells(found), plain_merged(rule, ranks))
                seen[found is None] += 1
        fours = ranks_of(4)
        for rule in TWOS[::8]:
            for ranks in zip(fours[::5], fours[3::5]):
                self.assertEqual(cells(merged(rule, ranks)), plain_merged(rule, ranks))
        self.assertGreater(min(seen.values()), 500)

    def test_168_products_of_ranks_turned_round(self):
        for many, step in ((1, 1), (2, 3), (3, 61)):
            for places in all_places(many):
                rule = PairRule.of_row(many, places)
                for ranks in list(itertools.product(ranks_of(3), repeat=many))[::step]:
                    parts = [ranks[i] if way == 1 else turned_round(ranks[i]) for i, way in places]
                    wanted = products(*parts) if parts else Rank.flat(3)
                    self.assertEqual(merged(rule, ranks), wanted)
        rule = PairRule.of_row(2, [(1, -1), (0, 1)])
        twelve = Rank([(0, 1), tuple(range(2, 12))])
        self.assertEqual(merged(rule, [Rank.strict(tuple(range(12))), twelve]).cells[:2], ((2,), (3,)))

    def test_169_always_merges_exactly_if_of_places(self):
        known = {many: [PairRule.of_row(many, places).pairs for places in all_places(many)] for many in (1, 2, 3)}
        self.assertEqual({many: len(rows) for many, rows in known.items()}, {1: 3, 2: 13, 3: 79})
        for rule in ONES + TWOS + some_rules(169, 12):
            of_places = rule.pairs in known[rule.size]
            self.assertIs(always_merges(rule), of_places)
            self.assertIs(row_behind(rule) is not None, of_places)
            ranks = bad_ranks(rule)
            self.assertIs(ranks is None, of_places)
            if ranks is None:
                continue
            self.assertEqual([type(ranks), len(ranks)], [tuple, rule.size])
            self.assertEqual({rank.worlds for rank in ranks}, {3})
            self.assertIsNone(plain_merged(rule, ranks))
            self.assertIsNone(merged(rule, ranks))
        for rule in ONES + TWOS:
            able = all(merged(rule, ranks) is not None for ranks in itertools.product(ranks_of(3), repeat=rule.size))
            self.assertIs(able, always_merges(rule))

    def test_169_one_and_two_worlds(self):
        for rule in ONES + TWOS + some_rules(168, 10):
            for worlds in (1, 2):
                for ranks in itertools.product(ranks_of(worlds), repeat=rule.size):
                    self.assertEqual(cells(merged(rule, ranks)), plain_merged(rule, ranks))
                    self.assertIsNotNone(merged(rule, ranks))

    def test_169_counted(self):
        self.assertEqual([rules_counted(many) for many in (1, 2, 3)], [3, 13, 79])
        for many in NO_INTEGERS + (0, 4, -1):
            refused(self, BadNumber("many"), rules_counted, many)

    def test_170_unanimous_rules(self):
        for many, rules, wanted in ((1, ONES, 1), (2, TWOS, 2), (3, some_rules(170, 30), None)):
            right = []
            for rule in rules + [PairRule.of_row(many, places) for places in all_places(many)]:
                plain = all(mine == 1 for row, mine in rule.pairs if 1 in row and -1 not in row)
                self.assertIs(is_unanimous(rule), plain)
                if plain and always_merges(rule):
                    right.append(row_behind(rule))
            full = [places for places in all_places(many) if len(places) == many and {way for _, way in places} <= {1}]
            self.assertEqual(sorted(set(right)), sorted(full))
            self.assertEqual(len(full), {1: 1, 2: 2, 3: 6}[many])

    def test_171_merging_ranks_that_give_a_journal(self):
        good = [((0, 1),), ((1, 1),), ((0, 1), (1, 1)), ((1, 1), (0, 1))]
        for places in all_places(2):
            rule = PairRule.of_row(2, places)
            if places in good:
                for journal in some_journals(3, 4, 25, 171):
                    for ranks in itertools.product(given_by(journal), repeat=2):
                        self.assertIs(gives(merged(rule, ranks), journal), True)
            else:
                self.assertTrue(self.has_bad_journal(rule))

    def has_bad_journal(self, rule):
        """Whether two ranks give a journal of three worlds with at most one entry that their merged rank does not."""
        for one, other in itertools.product(ranks_of(3), repeat=2):
            for deeds in [[]] + [[deed] for deed in all_deeds(3)]:
                journal = journal_of(one, deeds)
                if gives(other, journal) and not gives(merged(rule, (one, other)), journal):
                    return True
        return False

    def test_167_wrong_ranks(self):
        flat = Rank.flat(3)
        for value in NO_ROWS + ((), [flat], [flat] * 3):
            refused(self, BadGroup(-1), merged, TWOS[3], value)
        for worlds in (1, 2, 4, 12):
            refused(self, OtherWorlds(worlds), merged, TWOS[3], [flat, Rank.flat(worlds)])
        refused(self, OtherWorlds(2), merged, some_rules(1, 1)[0], [flat, Rank.flat(2), Rank.flat(4)])
        refused(self, OtherWorlds(4), merged, some_rules(1, 1)[0], [flat, flat, Rank.flat(4)])


if __name__ == "__main__":
    unittest.main()
