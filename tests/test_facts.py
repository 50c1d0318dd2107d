"""Points 10 to 12: facts."""

import itertools
import unittest

from helpers import NO_INTEGERS, NO_ROWS, lots_of, refused
from newsbooks.errors import BadFacts, BadLot, BadNumber, BadWord, TooMany
from newsbooks.facts import Facts
from newsbooks.lots import common, inside, plus, rest_of

FULL = Facts(["a", "b", "c"], [2, 3, 2])
BARRED = Facts(("a", "b", "c"), (2, 2, 2), [(0, 0, 1), [1, 1, 1], (0, 1, 0), (0, 0, 1)])
SOME = (Facts(["a"], [2]), Facts(["a", "b"], [2, 2]), Facts(["a", "b"], [2, 2], [(0, 1), (1, 0)]), BARRED)


def sets_of_facts(facts):
    return lots_of(facts.many)


def alike(facts, x, y, chosen):
    return all(facts.rows[x][fact] == facts.rows[y][fact] for fact in chosen)


class FactsTest(unittest.TestCase):
    def test_10_worlds_are_the_rows_left(self):
        self.assertEqual(FULL.rows, tuple(itertools.product(range(2), range(3), range(2))))
        self.assertEqual([FULL.worlds, FULL.full, FULL.many], [12, True, 3])
        self.assertEqual([FULL.names, FULL.counts], [("a", "b", "c"), (2, 3, 2)])
        self.assertEqual(BARRED.rows, ((0, 0, 0), (0, 1, 1), (1, 0, 0), (1, 0, 1), (1, 1, 0)))
        self.assertEqual([BARRED.worlds, BARRED.full, BARRED.many], [5, False, 3])
        one = Facts(["a"], [2], [[1]])
        self.assertEqual([one.rows, one.worlds, one.full], [((0,),), 1, False])
        for facts in SOME + (FULL,):
            for world in range(facts.worlds):
                row = facts.row_of(world)
                self.assertEqual(row, facts.rows[world])
                self.assertEqual(facts.world(**dict(zip(facts.names, row))), world)

    def test_10_most_facts_and_worlds(self):
        barred = [row for row in itertools.product(range(4), repeat=4) if sum(row) > 2 or row[0] > 0]
        facts = Facts(["a", "b", "c", "d"], [4, 4, 4, 4], barred)
        self.assertEqual([facts.worlds, facts.rows[0], facts.rows[-1]], [10, (0, 0, 0, 0), (0, 2, 0, 0)])
        refused(self, TooMany(12), Facts, ["a", "b"], [4, 4], [(0, 0), (0, 1), (0, 2)])
        self.assertEqual(Facts(["a", "b"], [4, 4], [(0, 0), (0, 1), (0, 2), (3, 3)]).worlds, 12)
        refused(self, TooMany(12), Facts, ["a", "b", "c"], [3, 3, 2])
        refused(self, BadNumber("barred"), Facts, ["a"], [2], [(0,), (1,)])
        refused(self, BadNumber("barred"), Facts, ["a"], [2], [(0,), (1,), (0,)])

    def test_10_refused_names(self):
        for names in NO_ROWS + ((), [], ["a", "b", "c", "d", "e"]):
            refused(self, BadFacts(-1), Facts, names, [2])
        for name in ("yes", "no", "not", "and", "or", "self", "", "A", "1a", "a_", "a b", "abcdefghijk", "\u00e4",
                     "a\u0663", 3, None, ["a"], b"a"):
            refused(self, BadFacts(1), Facts, ["a", name], [2, 2])
        refused(self, BadFacts(2), Facts, ["b", "a", "b", "no"], "no counts")
        names = ("abcdefghij", "a123456789", "yess", "n")
        self.assertEqual(Facts(names, [2, 2, 2, 2], [(0,) * 4] * 2 + [
            row for row in itertools.product(range(2), repeat=4) if sum(row) > 2]).names, names)

    def test_10_refused_counts(self):
        for counts in NO_ROWS + ((), [2], [2, 2, 2], [2, 1], [5, 2], [2, True], [2, "2"], [2.0, 2]):
            refused(self, BadNumber("counts"), Facts, ["a", "b"], counts, "no rows")
        self.assertEqual(Facts(["a"], [4]).worlds, 4)

    def test_10_refused_barred_rows(self):
        for barred in NO_ROWS:
            refused(self, BadFacts(-1), Facts, ["a", "b"], [2, 3], barred)
        for row in NO_ROWS + ((0,), (0, 1, 1), (2, 0), (0, 3), (0, -1), (0, True), (0, "1"), ((0,), 1)):
            refused(self, BadFacts(1), Facts, ["a", "b"], [2, 3], [(0, 1), row, "bad"])

    def test_10_world_with_values(self):
        self.assertEqual(FULL.world(c=1, a=0, b=2), 5)
        self.assertIsNone(BARRED.world(a=0, b=0, c=1))
        self.assertEqual(BARRED.world(a=0, b=1, c=1), 1)
        refused(self, BadWord("a"), FULL.world)
        refused(self, BadWord("b"), FULL.world, a=9, z=0)
        refused(self, BadWord("c"), FULL.world, a=0, b=0, aa=1)
        refused(self, BadWord("aa"), FULL.world, a=0, b=9, c=0, aa=1)
        refused(self, BadWord("B"), FULL.world, **{"a": 9, "b": 9, "c": 9, "B": 1})
        refused(self, BadWord("b"), FULL.world, a=0, b=3, c=2, d=0)
        refused(self, BadWord("d"), FULL.world, a=0, b=2, c=1, d=0)
        for value in NO_INTEGERS + (-1, 2):
            refused(self, BadWord("a"), FULL.world, a=value, b=0, c=0)

    def test_10_row_of_refuses_all_but_worlds(self):
        for world in NO_INTEGERS + (-1, 12):
            refused(self, BadNumber("world"), FULL.row_of, world)

    def test_11_sets_of_facts(self):
        calls = (FULL.alike_classes, lambda facts: FULL.told_by((0,), facts), lambda facts: FULL.shadow((), facts),
                 lambda facts: FULL.floor((), facts))
        for call in calls:
            for facts in NO_ROWS:
                refused(self, BadFacts(-1), call, facts)
            for entry in NO_INTEGERS + (3, -1, 2):
                refused(self, BadFacts(1), call, [2, entry, 2])
        for call in (FULL.told_by, FULL.shadow, FULL.floor):
            refused(self, BadLot(1), call, (0, 12), "no facts")
            refused(self, BadLot(-1), call, None, [])
        refused(self, BadLot(0), FULL.hangs_on, ["0"])
        for facts in SOME:
            for chosen in sets_of_facts(facts):
                turned = list(reversed(chosen))
                self.assertEqual(facts.alike_classes(chosen), facts.alike_classes(turned))

    def test_11_alike_classes(self):
        for facts in SOME + (FULL,):
            for chosen in sets_of_facts(facts):
                classes = facts.alike_classes(chosen)
                self.assertEqual(sorted(sum(classes, ())), list(range(facts.worlds)))
                self.assertEqual([lot[0] for lot in classes], sorted(lot[0] for lot in classes))
                number = {x: k for k, lot in enumerate(classes) for x in lot}
                for x, y in itertools.product(range(facts.worlds), repeat=2):
                    self.assertEqual(number[x] == number[y], alike(facts, x, y, chosen))
            self.assertEqual(facts.alike_classes(()), (tuple(range(facts.worlds)),))
            self.assertEqual(facts.alike_classes(tuple(range(facts.many))),
                             tuple((x,) for x in range(facts.worlds)))

    def test_11_hanging_and_telling(self):
        for facts in SOME:
            worlds = range(facts.worlds)
            for lot in lots_of(facts.worlds):
                hangs = tuple(
                    fact for fact in range(facts.many)
                    if any((x in lot) != (y in lot) for x in worlds for y in worlds
                           if alike(facts, x, y, [other for other in range(facts.many) if other != fact])))
                self.assertEqual(facts.hangs_on(lot), hangs)
                self.assertEqual(facts.hangs_on(list(reversed(lot))), hangs)
                for chosen in sets_of_facts(facts):
                    told = all((x in lot) == (y in lot) for x in worlds for y in worlds if alike(facts, x, y, chosen))
                    self.assertIs(facts.told_by(list(lot), chosen), told)

    def test_12_shadow_and_floor(self):
        for facts in SOME:
            lots = lots_of(facts.worlds)
            for chosen in sets_of_facts(facts):
                told = [lot for lot in lots if facts.told_by(lot, chosen)]
                for lot in lots:
                    shadow, floor = facts.shadow(lot, chosen), facts.floor(lot, chosen)
                    self.assertIn(shadow, told)
                    self.assertTrue(inside(lot, shadow))
                    self.assertTrue(all(inside(shadow, other) for other in told if inside(lot, other)))
                    self.assertIn(floor, told)
                    self.assertTrue(inside(floor, lot))
                    self.assertTrue(all(inside(other, floor) for other in told if inside(other, lot)))
                    self.assertEqual(facts.told_by(lot, chosen), shadow == lot)
                    rest = rest_of(lot, facts.worlds)
                    self.assertEqual(floor, rest_of(facts.shadow(rest, chosen), facts.worlds))

    def test_12_shadows_of_unions_and_of_shadows(self):
        facts = Facts(["a", "b"], [2, 3])
        for lot in lots_of(6):
            for other in lots_of(6)[::5]:
                union = plus(facts.shadow(lot, (1,)), facts.shadow(other, (1,)))
                self.assertEqual(facts.shadow(plus(lot, other), (1,)), union)
            for first in lots_of(2):
                told = set(facts.hangs_on(lot)) <= set(first)
                self.assertEqual(facts.told_by(lot, first), told)
                for second in lots_of(2):
                    twice = facts.shadow(facts.shadow(lot, first), second)
                    self.assertEqual(twice, facts.shadow(lot, common(first, second)))

    def test_12_barred_rows_are_another_thing(self):
        facts = Facts(["a", "b"], [2, 2], [(0, 1), (1, 0)])
        self.assertEqual([facts.hangs_on((0,)), facts.told_by((0,), ())], [(), False])
        self.assertEqual(facts.shadow(facts.shadow((0,), (0,)), (1,)), (0,))
        self.assertEqual(facts.shadow((0,), ()), (0, 1))


if __name__ == "__main__":
    unittest.main()
