"""Points 38 to 40: classes and ranks narrowed to them."""

import itertools
import random
import unittest

from helpers import NO_INTEGERS, NO_ROWS, classes_in, lots_of, ranks_of, refused
from newsbooks.errors import BadClasses, BadNumber, OtherWorlds
from newsbooks.narrowing import Narrowing, classes_of, coarser, is_whole, met, spread
from newsbooks.ranks import Rank
from newsbooks.turning import answer_of, turned

WORDS = ("lead", "push", "lean", "level", "sink", "ask")


def some_classes(worlds):
    """All classes of these worlds, in two orders, with the worlds of a class in any order."""
    chance = random.Random(38)
    found = []
    for classes in classes_in(worlds):
        for _ in range(2):
            rows = [chance.sample(lot, len(lot)) for lot in classes]
            found.append(chance.sample(rows, len(rows)))
    return found


class NarrowingTest(unittest.TestCase):
    def test_38_refused_classes(self):
        for call in (classes_of, Narrowing):
            for worlds in (0, 13) + NO_INTEGERS:
                refused(self, BadNumber("worlds"), call, "no classes", worlds)
            for classes in NO_ROWS:
                refused(self, BadClasses(-1), call, classes, 3)
            for lot in NO_ROWS + ((), [], (3,), (1, 1), (0,), (1, 0), (True,), ("1",)):
                refused(self, BadClasses(1), call, [(0,), lot, (1, 2)], 3)
            for classes in ([], [(0,)], [(2,), (0,)], ((1, 2),)):
                refused(self, BadClasses(len(classes)), call, classes, 3)
            refused(self, BadClasses(3), call, [(0,), (1,), (2,), (0,)], 3)

    def test_38_classes_in_the_order_handed_in(self):
        self.assertEqual(classes_of([[2, 0], (1,)], 3), ((0, 2), (1,)))
        self.assertEqual(classes_of(((0,),), 1), ((0,),))
        narrow = Narrowing([[2, 0], (1,)], 3)
        self.assertEqual([narrow.classes, narrow.worlds], [((0, 2), (1,)), 3])
        self.assertEqual(classes_of([(x,) for x in range(12)], 12), tuple((x,) for x in range(12)))

    def test_38_whole_lots_and_classes_met(self):
        for classes in some_classes(4):
            unions = [tuple(sorted(sum([list(classes[k]) for k in numbers], []))) for numbers in lots_of(len(classes))]
            for lot in lots_of(4):
                turned_lot = list(reversed(lot))
                self.assertIs(is_whole(classes, turned_lot), lot in unions)
                numbers = tuple(k for k, part in enumerate(classes) if set(part) & set(lot))
                self.assertEqual(met(classes, turned_lot), numbers)
            for numbers, union in zip(lots_of(len(classes)), unions):
                self.assertEqual(spread(classes, list(reversed(numbers))), union)
                self.assertEqual(met(classes, spread(classes, numbers)), numbers)

    def test_39_narrowed_ranks(self):
        for worlds in (1, 2, 3, 4):
            for classes in some_classes(worlds):
                narrow = Narrowing(classes, worlds)
                for rank in ranks_of(worlds):
                    least = [min(rank.levels[x] for x in lot) for lot in classes]
                    found = narrow(rank)
                    for j, k in itertools.product(range(len(classes)), repeat=2):
                        self.assertEqual(found.is_before(j, k), least[j] < least[k])
                    for numbers in lots_of(len(classes))[1:]:
                        best = rank.best(spread(classes, numbers))
                        self.assertEqual(found.best(numbers), met(classes, best))

    def test_39_other_worlds(self):
        narrow = Narrowing([(0, 1), (2,)], 3)
        refused(self, OtherWorlds(2), narrow, Rank.flat(2))
        refused(self, OtherWorlds(12), narrow, Rank.flat(12))
        self.assertEqual(Narrowing([tuple(range(12))], 12)(Rank.strict(tuple(range(12)))), Rank.flat(1))

    def test_39_products(self):
        ranks = ranks_of(3)
        for classes in some_classes(3):
            narrow = Narrowing(classes, 3)
            for p in ranks:
                if all(is_whole(classes, cell) for cell in p.cells):
                    for r in ranks:
                        self.assertEqual(narrow(p * r), narrow(p) * narrow(r))
        narrow = Narrowing([(0, 1), (2,)], 3)
        p, r = Rank([(0, 2), (1,)]), Rank.strict((1, 2, 0))
        self.assertNotEqual(narrow(p * r), narrow(p) * narrow(r))

    def test_39_coarser_classes(self):
        for classes in some_classes(4):
            for other in some_classes(4):
                found = coarser(classes, other)
                if not all(is_whole(classes, lot) for lot in other):
                    self.assertIsNone(found)
                    continue
                self.assertEqual(found, tuple(met(classes, lot) for lot in other))
                self.assertEqual(classes_of(found, len(classes)), found)
                first, second = Narrowing(classes, 4), Narrowing(found, len(classes))
                for rank in ranks_of(4)[::9]:
                    self.assertEqual(second(first(rank)), Narrowing(other, 4)(rank))

    def test_40_deeds_with_whole_lots(self):
        for worlds in (2, 3, 4):
            for classes in some_classes(worlds)[::worlds - 1]:
                narrow = Narrowing(classes, worlds)
                whole = [lot for lot in lots_of(worlds) if is_whole(classes, lot)]
                for rank in ranks_of(worlds)[::worlds - 1]:
                    for word in WORDS:
                        for lot in whole[:-1] if word in ("level", "sink") else whole[1:]:
                            self.check_deed(narrow, rank, word, lot)

    def check_deed(self, narrow, rank, word, lot):
        numbers = met(narrow.classes, lot)
        self.assertEqual(narrow(turned(rank, word, lot)), turned(narrow(rank), word, numbers))
        answer = met(narrow.classes, answer_of(rank, word, lot))
        self.assertEqual(answer, answer_of(narrow(rank), word, numbers))


if __name__ == "__main__":
    unittest.main()
