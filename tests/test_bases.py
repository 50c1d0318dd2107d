"""Point 181, and the whole base of 187: bases, sublists, and what they say."""

import unittest

from bases_of import all_bases, is_carried, said, some_bases
from helpers import NO_INTEGERS, NO_ROWS, lots_of, refused
from newsbooks.bases import all_sublists, base_of, carries, says, sublist_of, whole_base
from newsbooks.errors import BadBase, BadLot, BadNumber, BadOrder, TooMany

BASES = [(2, base) for base in all_bases(2, 2)] + [(3, base) for base in some_bases(3, 5, 12, 181)]
BASES = BASES + [(1, ()), (1, ((),)), (12, ((0, 11), tuple(range(12)), (), (11,)))]


class BasesTest(unittest.TestCase):
    def test_181_bases_and_sublists(self):
        for worlds, base in BASES:
            turned = [list(reversed(lot)) for lot in base]
            self.assertEqual(base_of(turned, worlds), base)
            for sublist in lots_of(len(base)):
                back = list(reversed(sublist))
                self.assertEqual(sublist_of(turned, worlds, back), sublist)
                self.assertEqual(says(turned, worlds, back), said(base, worlds, sublist))

    def test_181_what_sublists_carry(self):
        seen = {True: 0, False: 0}
        for worlds, base in BASES:
            for sublist in lots_of(len(base)):
                for lot in lots_of(worlds)[::1 if worlds < 4 else 401] + [tuple(range(worlds))]:
                    wanted = is_carried(base, worlds, sublist, lot)
                    seen[wanted] += 1
                    self.assertIs(carries(base, worlds, list(reversed(sublist)), list(reversed(lot))), wanted)
        self.assertGreater(min(seen.values()), 100)

    def test_181_sublist_order(self):
        for many in range(9):
            self.assertEqual(all_sublists(many), tuple(lots_of(many)))
        self.assertEqual([all_sublists(0), all_sublists(2)], [((),), ((), (0,), (1,), (0, 1))])
        for many in NO_INTEGERS + (9, -1):
            refused(self, BadNumber("many"), all_sublists, many)

    def test_181_the_empty_lot_w_and_doubles(self):
        base = [(), (0, 1), (0,), (0,)]
        self.assertEqual([says(base, 2, ()), says(base, 2, (1,)), says(base, 2, (3, 2)), says(base, 2, (0, 1))],
                         [(0, 1), (0, 1), (0,), ()])
        self.assertEqual([carries(base, 2, (0,), ()), carries(base, 2, (), (0,)), carries(base, 2, (), (1, 0))],
                         [True, False, True])

    def test_181_eight_lots_and_nine(self):
        base = [(0,)] * 8
        self.assertEqual([len(base_of(base, 1)), says(base, 1, [7, 0])], [8, (0,)])
        for call, more in ((base_of, ()), (sublist_of, (None,)), (says, (None,)), (carries, (None, None))):
            refused(self, TooMany(8), call, base + [()], 1, *more)
            refused(self, BadBase(9), call, base + [(), (1,)], 1, *more)

    def test_181_wrong_bases(self):
        for call, more in ((base_of, ()), (sublist_of, (None,)), (says, (None,)), (carries, (None, None))):
            for worlds in NO_INTEGERS + (0, 13):
                refused(self, BadNumber("worlds"), call, None, worlds, *more)
            for base in NO_ROWS:
                refused(self, BadBase(-1), call, base, 3, *more)
            for base, place in (([(3,)], 0), ([(), (0, 0)], 1), ([(0,), (1,), "0"], 2), ([None, (3,)], 0), ([(True,)], 0)):
                refused(self, BadBase(place), call, base, 3, *more)

    def test_181_wrong_sublists(self):
        base = [(0,), (1, 2), ()]
        for call, more in ((sublist_of, ()), (says, ()), (carries, (None,))):
            for sublist in NO_ROWS:
                refused(self, BadOrder(-1), call, base, 3, sublist, *more)
            for sublist, place in (((3,), 0), ((0, 0), 1), ((2, 1, True), 2), ((-1,), 0), ((0, "1"), 1)):
                refused(self, BadOrder(place), call, base, 3, sublist, *more)
            refused(self, BadOrder(0), call, [], 3, (0,), *more)
        for lot, place in ((None, -1), ((3,), 0), ((0, 0), 1)):
            refused(self, BadLot(place), carries, base, 3, (0,), lot)

    def test_187_whole_bases(self):
        for worlds in (1, 2, 3, 4):
            for book in lots_of(worlds)[1:]:
                wanted = tuple(lot for lot in lots_of(worlds) if set(book) <= set(lot))
                self.assertEqual(whole_base(worlds, list(reversed(book))), wanted)
        for worlds in NO_INTEGERS + (0, 5):
            refused(self, BadNumber("worlds"), whole_base, worlds, None)
        for lot, place in (((), -1), (None, -1), ((2,), 0), ((0, 0), 1)):
            refused(self, BadLot(place), whole_base, 2, lot)


if __name__ == "__main__":
    unittest.main()
