"""Points 182 and 183: rests, kernels, and the least sublists that meet others."""

import itertools
import random
import unittest

from bases_of import all_bases, is_carried, least_meeting, plain_kernels, plain_rests, some_bases
from helpers import NO_INTEGERS, NO_ROWS, lots_of, refused
from newsbooks.bases import all_sublists
from newsbooks.errors import BadBase, BadLot, BadNumber, BadOrder, TooMany
from newsbooks.rests import hitting, in_every_rest, in_no_kernel, is_rest, kernels, left_out, rests

BASES = [(1, base) for base in all_bases(1, 2)] + [(2, base) for base in all_bases(2, 3)]
BASES = BASES + [(3, base) for base in some_bases(3, 5, 25, 182)] + [(4, base) for base in some_bases(4, 5, 8, 182)]
CASES = [(base, worlds, lot) for worlds, base in BASES for lot in lots_of(worlds)[:-1]]
FOUND = [(base, worlds, lot, rests(base, worlds, lot), kernels(base, worlds, lot)) for base, worlds, lot in CASES]
CALLS = ((rests, ()), (kernels, ()), (in_every_rest, ()), (in_no_kernel, ()), (is_rest, (None,)))


class RestsTest(unittest.TestCase):
    def test_182_rests_and_kernels(self):
        for base, worlds, lot, some, others in FOUND:
            turned = [list(reversed(part)) for part in base]
            self.assertEqual(some, plain_rests(base, worlds, lot))
            self.assertEqual(others, plain_kernels(base, worlds, lot))
            self.assertEqual([rests(turned, worlds, list(reversed(lot))), kernels(turned, worlds, list(lot))],
                             [some, others])

    def test_182_each_sublist_has_one_around_or_inside(self):
        for base, worlds, lot, some, others in FOUND:
            self.assertTrue(some)
            whole = tuple(range(len(base)))
            carried = is_carried(base, worlds, whole, lot)
            self.assertIs(others == (), not carried)
            self.assertIs(some == (whole,), not carried)
            for sublist in all_sublists(len(base)):
                around = any(set(sublist) <= set(rest) for rest in some)
                within = any(set(kernel) <= set(sublist) for kernel in others)
                self.assertIs(within, is_carried(base, worlds, sublist, lot))
                self.assertIs(around, not within)

    def test_182_which_sublists_are_rests(self):
        for base, worlds, lot, some, _ in FOUND:
            for sublist in all_sublists(len(base)):
                self.assertIs(is_rest(base, worlds, lot, list(reversed(sublist))), sublist in some)

    def test_183_rests_by_kernels_and_kernels_by_rests(self):
        for base, _, _, some, others in FOUND:
            many = len(base)
            outs = [left_out(rest, many) for rest in some]
            self.assertEqual(sorted(left_out(row, many) for row in hitting(others, many)), sorted(some))
            self.assertEqual(hitting(outs, many), others)

    def test_183_in_every_rest_exactly_if_in_no_kernel(self):
        for base, worlds, lot, some, others in FOUND:
            every = tuple(place for place in range(len(base)) if all(place in rest for rest in some))
            none = tuple(place for place in range(len(base)) if not any(place in kernel for kernel in others))
            self.assertEqual([in_every_rest(base, worlds, lot), in_no_kernel(base, worlds, lot)], [every, none])
            self.assertEqual(every, none)

    def test_183_lots_carried_by_the_same_sublists(self):
        rows = {}
        for base, worlds, lot, some, others in FOUND:
            carried = tuple(is_carried(base, worlds, sublist, lot) for sublist in all_sublists(len(base)))
            rows.setdefault((base, worlds), []).append((carried, some, others))
        for row in rows.values():
            for one, other in itertools.combinations(row, 2):
                alike = [mine == second for mine, second in zip(one, other)]
                self.assertIn(alike, ([True] * 3, [False] * 3))

    def test_182_eight_lots(self):
        base = [(x, (x + 1) % 8) for x in range(8)]
        self.assertEqual(rests(base, 8, ()), plain_rests(base, 8, ()))
        self.assertEqual(kernels(base, 8, (0,)), plain_kernels(base, 8, (0,)))
        self.assertEqual(rests([(0,)] * 8, 2, (0,)), ((),))
        self.assertEqual(kernels([(0,)] * 8, 2, (0,)), tuple((place,) for place in range(8)))

    def test_182_wrong_arguments(self):
        for call, more in CALLS:
            for worlds in NO_INTEGERS + (0, 13):
                refused(self, BadNumber("worlds"), call, None, worlds, None, *more)
            for base in NO_ROWS:
                refused(self, BadBase(-1), call, base, 2, None, *more)
            refused(self, BadBase(1), call, [(0,), (2,)], 2, None, *more)
            refused(self, TooMany(8), call, [(0,)] * 9, 2, None, *more)
            for lot, place in ((None, -1), ((2,), 0), ((0, 0), 1), ((0, 1), -1), ([1, 0], -1)):
                refused(self, BadLot(place), call, [(0,)], 2, lot, *more)
        for sublist in NO_ROWS:
            refused(self, BadOrder(-1), is_rest, [(0,)], 2, (0,), sublist)
        for sublist, place in (((1,), 0), ((0, 0), 1), ((True,), 0)):
            refused(self, BadOrder(place), is_rest, [(0,)], 2, (0,), sublist)


class HittingTest(unittest.TestCase):
    def test_183_least_sublists_that_meet_all(self):
        chance = random.Random(183)
        for many in range(4):
            for count in range(4 if many < 3 else 3):
                for lists in itertools.product(lots_of(many), repeat=count):
                    turned = [list(reversed(row)) for row in lists]
                    self.assertEqual(hitting(turned, many), least_meeting(lists, many))
        for _ in range(25):
            many = chance.randint(4, 6)
            lists = [chance.choice(lots_of(many)) for _ in range(chance.randint(1, 9))]
            self.assertEqual(hitting(lists, many), least_meeting(lists, many))

    def test_183_no_lists_and_an_empty_list(self):
        for many in range(9):
            self.assertEqual([hitting([], many), hitting([()], many)], [((),), ()])
        self.assertEqual([hitting([(0,), ()], 2), hitting(((1, 0), (0,)), 2)], [(), ((0,),)])

    def test_183_any_number_of_lists_with_doubles(self):
        self.assertEqual(hitting(lots_of(8)[1:] * 3, 8), (tuple(range(8)),))
        self.assertEqual(hitting([(0, 1), (1, 0), (0, 1)], 3), ((0,), (1,)))

    def test_183_wrong_lists(self):
        for many in NO_INTEGERS + (9, -1):
            refused(self, BadNumber("many"), hitting, None, many)
            refused(self, BadNumber("many"), left_out, None, many)
        for lists in NO_ROWS:
            refused(self, BadOrder(-1), hitting, lists, 3)
        for lists, place in (([(3,)], 0), ([(0,), (1, 1)], 1), ([(), None], 1), ([(0,), "0"], 1), ([(True,)], 0), ([0], 0)):
            refused(self, BadOrder(place), hitting, lists, 3)

    def test_183_what_is_left_out(self):
        for many in range(6):
            for sublist in lots_of(many):
                wanted = tuple(place for place in range(many) if place not in sublist)
                self.assertEqual(left_out(list(reversed(sublist)), many), wanted)
        for sublist in NO_ROWS:
            refused(self, BadOrder(-1), left_out, sublist, 3)
        for sublist, place in (((3,), 0), ((0, 0), 1), ((0, True), 1)):
            refused(self, BadOrder(place), left_out, sublist, 3)


if __name__ == "__main__":
    unittest.main()
