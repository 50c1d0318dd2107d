"""Points 188 and 189: bases gone through in an order, and base ranks."""

import itertools
import unittest

from bases_of import all_bases, common_of, plain_rests, said, some_bases
from helpers import NO_INTEGERS, NO_ROWS, books_of, lot_key, ranks_of, refused
from newsbooks.acts import act_of
from newsbooks.errors import BadBase, BadLot, BadNumber, BadOrder, TooMany
from newsbooks.folds import fold, led_row, taken_news
from newsbooks.leadrows import halving
from newsbooks.orderings import all_taken, base_rank, greedy, held_over_orders, short_base, taken_in
from newsbooks.ranks import Rank

BASES = [(1, base) for base in all_bases(1, 2)] + [(2, base) for base in all_bases(2, 3)]
BASES = BASES + [(3, base) for base in some_bases(3, 4, 40, 188)] + [(4, base) for base in some_bases(4, 5, 10, 188)]
FULL = [(2, base) for base in all_bases(2, 3) if () not in base]
FULL = FULL + [(3, base) for base in some_bases(3, 4, 40, 189, False)]
FULL = FULL + [(4, base) for base in some_bases(4, 5, 10, 189, False)]


def plain_taken(base, worlds, order):
    taken = []
    for place in order:
        if set(base[place]) & set(said(base, worlds, taken)):
            taken.append(place)
    return tuple(sorted(taken))


class OrdersTest(unittest.TestCase):
    def test_188_what_is_taken_in_an_order(self):
        for worlds, base in BASES:
            turned = [list(reversed(lot)) for lot in base]
            for order in itertools.permutations(range(len(base))):
                self.assertEqual(taken_in(turned, worlds, list(order)), plain_taken(base, worlds, order))

    def test_188_over_all_orders_just_the_rests(self):
        for worlds, base in BASES:
            rows = {plain_taken(base, worlds, order) for order in itertools.permutations(range(len(base)))}
            self.assertEqual(all_taken([list(lot) for lot in base], worlds), tuple(sorted(rows, key=lot_key)))
            self.assertEqual(set(plain_rests(base, worlds, ())), rows)
        self.assertEqual([all_taken([], 3), all_taken([()], 3)], [((),), ((),)])

    def test_188_six_lots_and_seven(self):
        base = [(0, 1), (1, 2), (2, 3), (3, 0), (0, 2), (1, 3)]
        rows = {plain_taken(base, 4, order) for order in itertools.permutations(range(6))}
        self.assertEqual(all_taken(base, 4), tuple(sorted(rows, key=lot_key)))
        refused(self, TooMany(6), all_taken, base + [(0,)], 4)
        refused(self, TooMany(6), all_taken, [()] * 8, 4)
        refused(self, TooMany(8), all_taken, [()] * 9, 4)
        self.assertEqual(taken_in(base + [(0,), (1,)], 4, (7, 6, 5, 4, 3, 2, 1, 0)), (0, 1, 5, 7))

    def test_188_the_news_taken(self):
        for worlds, base in FULL:
            for order in itertools.permutations(range(len(base))):
                news = [base[place] for place in reversed(order)]
                _, places = fold(news, worlds, tuple(range(worlds)))
                taken = sorted(order[len(order) - 1 - place] for place in places)
                self.assertEqual(taken_in(base, worlds, order), tuple(taken))
                self.assertEqual(sorted(taken_news(news, worlds)), sorted(base[place] for place in taken))

    def test_188_what_is_held_over_all_orders(self):
        for worlds, base in [row for row in BASES if len(row[1]) < 5][::2]:
            for rank in ranks_of(worlds)[::1 if worlds < 4 else 9]:
                lots = [lot for lot in base if lot]
                held = {led_row(rank, order).held for order in itertools.permutations(lots)}
                wanted = tuple(sorted(held, key=lot_key))
                self.assertEqual(held_over_orders(rank, [list(reversed(lot)) for lot in base]), wanted)
                rests = plain_rests(base, worlds, ())
                self.assertEqual({rank.best(said(base, worlds, rest)) for rest in rests}, held)
        self.assertEqual(held_over_orders(Rank.strict((2, 0, 1)), [(0, 1), (1, 2), (0, 2), ()]), ((0,), (1,), (2,)))

    def test_188_wrong_orders(self):
        base = [(0,), (1,), ()]
        for order in NO_ROWS:
            refused(self, BadOrder(-1), taken_in, base, 2, order)
        for order, place in (((3,), 0), ((0, 0), 1), ((1, 2, True), 2), ((), 0), ((1,), 1), ((2, 0), 2), ((0, 1, 2, 0), 3)):
            refused(self, BadOrder(place), taken_in, base, 2, order)
        self.assertEqual(taken_in([], 2, ()), ())

    def test_188_wrong_bases(self):
        calls = (lambda base, worlds: taken_in(base, worlds, None), all_taken, base_rank,
                 lambda base, worlds: greedy(base, worlds, None))
        for call in calls:
            for worlds in NO_INTEGERS + (0, 13):
                refused(self, BadNumber("worlds"), call, None, worlds)
        for call in calls + (lambda base, worlds: held_over_orders(Rank.flat(worlds), base),):
            for base in NO_ROWS:
                refused(self, BadBase(-1), call, base, 2)
            for base, place in (([(2,)], 0), ([(0,), (0, 0)], 1), ([(0,), None], 1), ([(True,)], 0)):
                refused(self, BadBase(place), call, base, 2)
            refused(self, TooMany(8), call, [(0,)] * 9, 2)
            refused(self, BadBase(9), call, [(0,)] * 9 + [(2,)], 2)


class BaseRanksTest(unittest.TestCase):
    def test_189_the_act_of_the_base_turned_round(self):
        for worlds, base in FULL:
            rank = base_rank([list(reversed(lot)) for lot in base], worlds)
            self.assertEqual(rank, act_of(tuple(reversed(base)), worlds))
            for x, y in itertools.product(range(worlds), repeat=2):
                parting = [lot for lot in base if (x in lot) != (y in lot)]
                self.assertIs(rank.is_before(x, y), bool(parting) and x in parting[0])

    def test_189_greedy_places(self):
        for worlds, base in FULL:
            rank = base_rank(base, worlds)
            for lot in books_of(worlds):
                left, places = set(lot), []
                for place, part in enumerate(base):
                    if set(part) & left:
                        left = left & set(part)
                        places.append(place)
                found = greedy([list(part) for part in base], worlds, list(reversed(lot)))
                self.assertEqual(found, (tuple(sorted(left)), tuple(places)))
                self.assertEqual(found[0], rank.best(lot))
                self.assertEqual(found[0], common_of([lot] + [base[place] for place in places], worlds))
        self.assertEqual(greedy([(), (0, 1), (2,)], 3, (0, 1, 2)), ((0, 1), (1,)))
        self.assertEqual(greedy([], 12, (11, 3)), ((3, 11), ()))

    def test_189_empty_lots(self):
        for base, place in (([()], 0), ([(0,), ()], 1), ([(0,), (1,), [], (2,)], 2), ([()] * 9, 0)):
            refused(self, BadBase(place), base_rank, base, 2)
        self.assertEqual([base_rank([], 3), base_rank([(0, 1, 2)] * 8, 3)], [Rank.flat(3)] * 2)
        for lot, place in (((), -1), (None, -1), ((2,), 0), ((0, 0), 1)):
            refused(self, BadLot(place), greedy, [(0,)], 2, lot)

    def test_189_short_bases(self):
        for worlds in (1, 2, 3, 4):
            for rank in ranks_of(worlds):
                base = short_base(rank)
                self.assertEqual([type(base), base_rank(base, worlds), len(base)], [tuple, rank, halving(len(rank))])
        for worlds, most in ((2, 2), (3, 2)):
            shortest = {}
            for base in all_bases(worlds, most):
                if () not in base:
                    cells = base_rank(base, worlds).cells
                    shortest[cells] = min(len(base), shortest.get(cells, 9))
            for rank in ranks_of(worlds):
                self.assertEqual(shortest[rank.cells], len(short_base(rank)))
        self.assertEqual(len(short_base(Rank.strict(tuple(range(12))))), 4)


if __name__ == "__main__":
    unittest.main()
