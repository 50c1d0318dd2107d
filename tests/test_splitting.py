"""Points 136 to 139: full facts, shares, lots that split, and the finest partings that fit them."""

import itertools
import random
import unittest

from helpers import NO_ROWS, classes_in, lot_key, lots_of, refused
from newsbooks.errors import BadFacts, BadLot, BadNumber
from newsbooks.facts import Facts
from newsbooks.splitting import (
    finest_parting, is_parting_of, lot_of_shares, parts_of, share, splits_on, told_lots)

ONE = Facts(["a"], [3])
TWO = Facts(["a", "b"], [2, 3])
THREE = Facts(["a", "b", "c"], [2, 2, 2])
TWELVE = Facts(["a", "b", "c"], [2, 3, 2])
FULL = (ONE, Facts(["a", "b"], [2, 2]), TWO, THREE)
BARRED = Facts(["a", "b"], [2, 2], [(1, 1)])


def world_of(facts, row):
    return facts.rows.index(tuple(row))


def mixed(facts, x, y, some):
    """The world with the values of x on the facts and those of y on the others."""
    return world_of(facts, [facts.rows[x if fact in some else y][fact] for fact in range(facts.many)])


def values(facts, world, some):
    return tuple(facts.rows[world][fact] for fact in some)


def others(facts, some):
    return tuple(fact for fact in range(facts.many) if fact not in some)


def plain_share(facts, lot, some):
    return tuple(sorted({values(facts, world, some) for world in lot}))


def plain_splits(facts, lot, some):
    return all(mixed(facts, x, y, some) in lot for x in lot for y in lot)


def plain_lot(facts, parts, shares):
    return tuple(world for world in range(facts.worlds)
                 if all(values(facts, world, part) in rows for part, rows in zip(parts, shares)))


def plain_fits(facts, lot, parts):
    return plain_lot(facts, parts, [plain_share(facts, lot, part) for part in parts]) == lot


def partings(facts):
    return [sorted(tuple(sorted(part)) for part in parts) for parts in classes_in(facts.many)]


def cases():
    """Facts with all their lots, or some of those of twelve worlds."""
    found = [(facts, lot) for facts in FULL for lot in lots_of(facts.worlds)]
    chance = random.Random(137)
    for _ in range(60):
        rows = [chance.sample(range(count), chance.randint(1, count)) for count in TWELVE.counts]
        lot = {world_of(TWELVE, row) for row in itertools.product(*rows)}
        if chance.random() < 0.5:
            lot = lot ^ {chance.randrange(12)}
        found.append((TWELVE, tuple(sorted(lot))))
    return found


CASES = cases()


class SharesTest(unittest.TestCase):
    def test_136_shares(self):
        for facts, lot in CASES:
            for some in lots_of(facts.many):
                found = share(facts, list(reversed(lot)), list(reversed(some)))
                self.assertEqual(found, plain_share(facts, lot, some))
        self.assertEqual([share(TWO, (), (0,)), share(TWO, (), ()), share(TWO, (4, 1), ())], [(), (), ((),)])
        self.assertEqual([share(TWO, (4, 1), (1,)), share(TWO, (5, 1), (1, 0))], [((1,),), ((0, 1), (1, 2))])

    def test_138_lots_of_shares(self):
        for facts in FULL:
            for parts in partings(facts):
                chance = random.Random(138)
                for _ in range(12):
                    every = [list(itertools.product(*[range(facts.counts[f]) for f in part])) for part in parts]
                    shares = [chance.sample(rows, chance.randint(0, len(rows))) for rows in every]
                    wanted = plain_lot(facts, parts, shares)
                    self.assertEqual(lot_of_shares(facts, parts, shares), wanted)
                    turned = [[list(row) for row in rows + rows[:1]] for rows in reversed(shares)]
                    back = [list(reversed(part)) for part in reversed(parts)]
                    self.assertEqual(lot_of_shares(facts, back, turned), wanted)

    def test_138_shares_without_rows_and_with_doubles(self):
        self.assertEqual(lot_of_shares(TWO, [(0,), (1,)], [[], [(0,)]]), ())
        self.assertEqual(lot_of_shares(TWO, [(1,), (0,)], [[(2,), [0], (2,)], ((1,),)]), (3, 5))
        self.assertEqual(lot_of_shares(THREE, [(2, 0), (1,)], [[(0, 1), (1, 0)], [(1,), (1,)]]), (3, 6))

    def test_138_wrong_shares(self):
        parting = [(0,), (1,)]
        for shares in NO_ROWS + ((), [[]], [[], [], []]):
            refused(self, BadNumber("shares"), lot_of_shares, TWO, parting, shares)
        for rows in NO_ROWS + ([()], [(0, 0)], [(2,)], [(-1,)], [(True,)], [("0",)], [0], [(0,), None], ["0"]):
            refused(self, BadNumber("shares"), lot_of_shares, TWO, parting, [rows, []])
        self.assertEqual(lot_of_shares(TWO, parting, [[(1,)], [(2,)]]), (5,))
        refused(self, BadNumber("shares"), lot_of_shares, TWO, parting, [[(1,)], [(3,)]])


class SplittingTest(unittest.TestCase):
    def test_137_lots_that_split_and_that_do_not(self):
        seen = {True: 0, False: 0}
        for facts, lot in CASES:
            for some in lots_of(facts.many):
                wanted = plain_splits(facts, lot, some)
                seen[wanted] += 1
                self.assertIs(splits_on(facts, list(reversed(lot)), list(reversed(some))), wanted)
                self.assertIs(splits_on(facts, lot, others(facts, some)), wanted)
                product = len(share(facts, lot, some)) * len(share(facts, lot, others(facts, some)))
                self.assertIs(len(lot) == product, wanted)
        self.assertGreater(min(seen.values()), 300)

    def test_137_all_split_on_no_facts_and_on_all(self):
        for facts, lot in CASES:
            self.assertIs(splits_on(facts, lot, ()), True)
            self.assertIs(splits_on(facts, lot, tuple(range(facts.many))), True)

    def test_137_common_facts(self):
        for facts, lot in CASES[::3]:
            able = [some for some in lots_of(facts.many) if splits_on(facts, lot, some)]
            for one, other in itertools.product(able, repeat=2):
                self.assertIn(tuple(fact for fact in one if fact in other), able)

    def test_138_partings_that_fit(self):
        for facts, lot in CASES:
            for parts in partings(facts):
                turned = [list(reversed(part)) for part in reversed(parts)]
                self.assertIs(is_parting_of(facts, list(reversed(lot)), turned), plain_fits(facts, lot, parts))

    def test_138_the_finest_parting(self):
        for facts, lot in CASES:
            finest = finest_parting(facts, list(reversed(lot)))
            if lot == ():
                self.assertEqual(finest, tuple((fact,) for fact in range(facts.many)))
                continue
            fitting = [parts for parts in partings(facts) if plain_fits(facts, lot, parts)]
            self.assertIn(list(finest), fitting)
            for parts in fitting:
                for part in parts:
                    self.assertEqual([set(mine) <= set(part) for mine in finest],
                                     [bool(set(mine) & set(part)) for mine in finest])

    def test_139_lots_are_the_lots_of_their_shares(self):
        for facts, lot in CASES:
            parts, shares = finest_parting(facts, lot), parts_of(facts, list(reversed(lot)))
            self.assertEqual(shares, tuple(share(facts, lot, part) for part in parts))
            self.assertEqual(lot_of_shares(facts, parts, shares), lot)
            product = 1
            for rows in shares:
                product = product * len(rows)
            self.assertEqual(product, len(lot))

    def test_139_books_split_on_unions_of_parts(self):
        for facts, lot in CASES:
            parts = finest_parting(facts, lot)
            for some in lots_of(facts.many):
                union = all(set(part) <= set(some) for part in parts if set(part) & set(some))
                self.assertTrue(lot == () or splits_on(facts, lot, some) is union)
            for fact in range(facts.many):
                if lot and fact not in facts.hangs_on(lot):
                    self.assertIn((fact,), parts)
                    self.assertEqual(share(facts, lot, (fact,)), tuple((v,) for v in range(facts.counts[fact])))

    def test_137_example(self):
        lot = (0, 3, 4, 7)
        self.assertEqual(finest_parting(THREE, lot), ((0,), (1, 2)))
        self.assertEqual(parts_of(THREE, lot), (((0,), (1,)), ((0, 0), (1, 1))))
        self.assertIs(splits_on(THREE, lot, (1,)), False)
        crossed = (0, 2, 5, 7)
        self.assertEqual(finest_parting(THREE, crossed), ((0, 2), (1,)))
        self.assertEqual(finest_parting(ONE, (0, 2)), ((0,),))


class ToldLotsTest(unittest.TestCase):
    def test_136_lots_that_are_told(self):
        for facts in FULL:
            for some in lots_of(facts.many):
                slices = facts.alike_classes(some)
                found = list(told_lots(facts, list(reversed(some))))
                told = {lot for lot in lots_of(facts.worlds) if lot and facts.told_by(lot, some)}
                self.assertEqual([set(found), len(found)], [told, len(told)])
                numbers = [tuple(k for k, part in enumerate(slices) if part[0] in lot) for lot in found]
                self.assertEqual(numbers, sorted(numbers, key=lot_key))
        self.assertEqual(list(told_lots(TWO, ())), [(0, 1, 2, 3, 4, 5)])
        self.assertEqual(list(told_lots(TWO, (0,))), [(0, 1, 2), (3, 4, 5), (0, 1, 2, 3, 4, 5)])

    def test_03_arguments_are_checked_when_the_first_value_is_asked_for(self):
        wrong = told_lots(TWO, (2,))
        refused(self, BadFacts(0), next, wrong)
        refused(self, BadFacts(-1), next, told_lots(BARRED, (2,)))


class SplittingErrorsTest(unittest.TestCase):
    def test_136_barred_rows_ahead_of_all_else(self):
        for call, *args in ((share, None, None), (lot_of_shares, [(5,)], None), (splits_on, (9,), (9,)),
                            (finest_parting, None), (parts_of, None), (is_parting_of, (9,), [(5,)])):
            refused(self, BadFacts(-1), call, BARRED, *args)

    def test_136_wrong_lots_and_sets(self):
        for call, more in ((share, (0,)), (splits_on, (0,)), (is_parting_of, [(0,), (1,)])):
            for lot, place in ((None, -1), ("0", -1), ((6,), 0), ((0, 0), 1), ((0, True), 1)):
                refused(self, BadLot(place), call, TWO, lot, more)
                refused(self, BadLot(place), call, TWO, lot, None)
        for call in (finest_parting, parts_of):
            for lot, place in ((None, -1), ((6,), 0), ((0, 0), 1)):
                refused(self, BadLot(place), call, TWO, lot)
        for call in (share, splits_on):
            for some in NO_ROWS:
                refused(self, BadFacts(-1), call, TWO, (0,), some)
            for some, place in (((2,), 0), ((0, 0), 1), ((1, True), 1), ((0, 1, -1), 2)):
                refused(self, BadFacts(place), call, TWO, (0,), some)
        for some in NO_ROWS:
            refused(self, BadFacts(-1), list, told_lots_of(some))

    def test_138_wrong_partings(self):
        wrong = [(value, -1) for value in NO_ROWS]
        wrong += [([(0,)], 1), ([], 0), ([(0,), ()], 1), ([(0,), (1, 0)], 1), ([(0, 1), (1,)], 1), ([(0, 0), (1,)], 0),
                  ([(2,), (0, 1)], 0), ([0, 1], 0), ([(0,), "1"], 1), ([(0,), (True,)], 1), ([(1,), None, (0,)], 1)]
        for parting, place in wrong:
            refused(self, BadFacts(place), lot_of_shares, TWO, parting, None)
            refused(self, BadFacts(place), is_parting_of, TWO, (0,), parting)
        self.assertIs(is_parting_of(TWO, (0,), [[1], [0]]), True)


def told_lots_of(some):
    """Yields on what told_lots yields, so that its arguments are looked at when asked for."""
    yield from told_lots(TWO, some)


if __name__ == "__main__":
    unittest.main()
