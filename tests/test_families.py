"""Points 7 to 9: families."""

import itertools
import random
import unittest

from helpers import NO_INTEGERS, NO_ROWS, books_of, lot_key, lots_of, refused
from newsbooks.errors import BadFamily, BadLot, BadNumber
from newsbooks.families import (
    common_parts, contrary_closed, fewest_parts, is_part_closed, is_union_closed, union_closed)
from newsbooks.lots import common, every, plus, rest_of

CALLS = (common_parts, union_closed, contrary_closed, is_union_closed, is_part_closed,
         lambda family, worlds: fewest_parts(family, worlds, (0,)))


def some_families(worlds, many, most=8):
    chance = random.Random(7)
    lots = books_of(worlds)
    return [[chance.choice(lots) for _ in range(chance.randint(0, most))] for _ in range(many)]


def common_of(rows, worlds):
    found = set(range(worlds))
    for lot in rows:
        found = found & set(lot)
    return tuple(sorted(found))


def parts_of(family, worlds):
    """Each common part with the least places that have it."""
    found = {}
    for places in lots_of(len(family)):
        part = common_of([family[place] for place in places], worlds)
        if part and part not in found:
            found[part] = places
    return found


def closed(lots, joined):
    """The least set of lots that has these and with each two of its lots what is joined from them."""
    found = set(lots)
    while True:
        more = {lot for one in found for other in found for lot in joined(one, other)} - found
        if not more:
            return tuple(sorted(found, key=lot_key))
        found = found | more


class FamiliesTest(unittest.TestCase):
    def test_07_refused_families(self):
        for call in CALLS:
            for worlds in (0, 13) + NO_INTEGERS:
                refused(self, BadNumber("worlds"), call, "no family", worlds)
            for family in NO_ROWS + ([(0,)] * 9, ((0,),) * 9, [()] * 9):
                refused(self, BadFamily(-1), call, family, 3)
            for lot in NO_ROWS + ((), [], (3,), (0, 0), (0, True), ("0",)):
                refused(self, BadFamily(2), call, [(0,), [1, 0], lot, ()], 3)
        refused(self, BadFamily(0), fewest_parts, [()], 3, "no lot")
        for lot in NO_ROWS + ((), []):
            refused(self, BadLot(-1), fewest_parts, [(0,)], 3, lot)
        refused(self, BadLot(1), fewest_parts, [(0,)], 3, [0, 3])

    def test_08_empty_family_and_one_world(self):
        self.assertEqual(common_parts([], 3), ((0, 1, 2),))
        self.assertEqual([union_closed((), 3), contrary_closed([], 3)], [(), ()])
        self.assertIs(is_union_closed([], 3), True)
        self.assertIs(is_part_closed((), 3), True)
        self.assertEqual([common_parts([[0]], 1), union_closed([[0]], 1), contrary_closed([[0]], 1)], [((0,),)] * 3)

    def test_08_eight_lots_of_twelve_worlds(self):
        family = [minus_one(x) for x in range(8)]
        self.assertEqual(len(common_parts(family, 12)), 256)
        self.assertEqual(len(union_closed([(x,) for x in range(8)], 12)), 255)
        self.assertEqual(len(contrary_closed([(x,) for x in range(8)], 12)), 16)

    def test_08_common_parts(self):
        for family in some_families(5, 200):
            found = common_parts(family, 5)
            self.assertEqual(found, tuple(sorted(parts_of(family, 5), key=lot_key)))
            joined = lambda one, other: [common(one, other)] if common(one, other) else []
            lots = [tuple(sorted(lot)) for lot in family] + [every(5)]
            self.assertEqual(found, closed(lots, joined))
            if len(found) <= 8:
                self.assertEqual(common_parts(found, 5), found)

    def test_08_union_closed(self):
        for family in some_families(5, 200, 5):
            found = union_closed(family, 5)
            self.assertEqual(found, closed(family, lambda one, other: [plus(one, other)]))
            if len(found) <= 8:
                self.assertEqual(union_closed(found, 5), found)
                self.assertIs(is_union_closed(found, 5), True)

    def test_08_contrary_closed(self):
        for family in some_families(4, 200):
            found = contrary_closed(family, 4)
            joined = lambda one, other: [rest_of(one, 4)] if len(one) < 4 else []
            self.assertEqual(found, closed(family, joined))
            if len(found) <= 8:
                self.assertEqual(contrary_closed(found, 4), found)

    def test_08_whether_a_family_is_closed(self):
        for size in range(4):
            for family in itertools.combinations(books_of(3), size):
                lots = set(family)
                pairs = list(itertools.product(family, repeat=2))
                self.assertIs(is_union_closed(family, 3), all(plus(*pair) in lots for pair in pairs))
                wanted = all(not common(*pair) or common(*pair) in lots for pair in pairs)
                self.assertIs(is_part_closed([list(reversed(lot)) for lot in family], 3), wanted)

    def test_09_fewest_parts(self):
        for family in some_families(4, 150):
            found = parts_of(family, 4)
            for lot in books_of(4):
                self.assertEqual(fewest_parts(family, 4, list(reversed(lot))), found.get(lot))
        self.assertEqual(fewest_parts([(0, 1), (1, 0)], 2, (0, 1)), ())
        self.assertEqual(fewest_parts([(0, 1), (1, 2), (1,), [1]], 3, (1,)), (2,))
        self.assertEqual(fewest_parts([(0, 1), (0, 2), (1, 2), (2, 3)], 4, (2,)), (1, 2))
        self.assertIsNone(fewest_parts([(0, 1)], 3, (1,)))
        self.assertEqual(fewest_parts([], 1, (0,)), ())


def minus_one(world):
    return [x for x in range(12) if x != world]


if __name__ == "__main__":
    unittest.main()
