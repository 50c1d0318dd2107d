"""Points 129 to 131, and 124 as far as whole numbers go: what rows of news, levels and sinks can reach."""

import itertools
import unittest

from helpers import NO_INTEGERS, NO_ROWS, books_of, lot_key, lots_of, ranks_of, refused, stands
from newsbooks.errors import BadFamily, BadLot, BadNumber, OtherWorlds
from newsbooks.families import common_parts
from newsbooks.folds import led_row
from newsbooks.leadrows import fewest_leads, halving
from newsbooks.ranks import Rank
from newsbooks.reach import (
    can_be_held, everywhere, fewest_levels, flat_by_sink, level_row, news_for, one_sink, strict_by_one)
from newsbooks.turning import led, levelled, sunk

FAMILIES = {
    1: [[], [(0,)], [(0,), (0,)]],
    2: [[], [(0,)], [(1,), (0,)], [(0, 1), (1,), (1,)]],
    3: [[], [(0, 1)], [(1, 2), (0, 1), (1, 2)], [(0, 1), (1, 2), (0, 2)], [(2,), (0, 1)], [(0,), (1,), (0, 1, 2)]],
    4: [[(0, 1), (1, 2), (2, 3)], [(0, 1, 2), (1, 2, 3), (0, 2, 3), (0, 1, 3)]],
}


def searched(rank, turn, lots):
    """All ranks that turns by these lots can reach, by their cells, each with the fewest lots."""
    found = {rank.cells: 0}
    queue = [rank]
    for at in queue:
        for lot in lots:
            later = turn(at, lot)
            if later.cells not in found:
                found[later.cells] = found[at.cells] + 1
                queue.append(later)
    return found


def same_outside(rank, goal, front):
    rest = [x for x in range(rank.worlds) if x not in front]
    return all(stands(rank.levels, x, y) == stands(goal.levels, x, y) for x in rest for y in rest)


class HeldTest(unittest.TestCase):
    def test_129_what_rows_over_a_family_can_hold(self):
        for worlds, families in FAMILIES.items():
            for family in families:
                for rank in ranks_of(worlds)[::1 if worlds < 4 else 7]:
                    lengths = searched(rank, led, family)
                    fewest = {}
                    for cells, many in lengths.items():
                        fewest[cells[0]] = min(many, fewest.get(cells[0], many))
                    turned = [list(reversed(lot)) for lot in family]
                    self.assertEqual(can_be_held(rank, turned), tuple(sorted(fewest, key=lot_key)))
                    bests = {rank.best(part) for part in common_parts(family, worlds)}
                    self.assertEqual(set(can_be_held(rank, family)), bests)
                    for lot in lots_of(worlds):
                        self.check_news(rank, family, lot, fewest.get(lot))

    def check_news(self, rank, family, lot, wanted):
        """The places are the least ones, and no row over the family has fewer pieces."""
        able = []
        for places in lots_of(len(family)):
            part = set(range(rank.worlds)).intersection(*[family[place] for place in places])
            if part and rank.best(tuple(part)) == lot:
                able.append(places)
        found = news_for(rank, family, list(reversed(lot)))
        self.assertEqual(found, able[0] if able else None)
        self.assertEqual(None if found is None else len(found), wanted)
        for order in [] if found is None else itertools.permutations(found):
            self.assertEqual(led_row(rank, [family[place] for place in order]).held, lot)

    def test_129_the_empty_lot_and_all_worlds(self):
        rank = Rank([(0,), (1, 2), (3,)])
        family = [(1, 2, 3), (0, 3)]
        self.assertEqual([can_be_held(rank, family), news_for(rank, family, (3,))], [((0,), (3,), (1, 2)), (0, 1)])
        self.assertEqual([news_for(rank, family, ()), news_for(rank, family, (0, 1, 2, 3))], [None, None])
        self.assertEqual([news_for(Rank.flat(4), family, (3, 2, 1, 0)), news_for(rank, [], (0,))], [(), ()])
        self.assertEqual([can_be_held(Rank.flat(1), []), can_be_held(rank, [(0,)] * 8)], [((0,),), ((0,),)])

    def test_129_wrong_families_and_lots(self):
        rank = Rank.flat(3)
        for family in NO_ROWS + ([(0,)] * 9,):
            refused(self, BadFamily(-1), can_be_held, rank, family)
            refused(self, BadFamily(-1), news_for, rank, family, (3,))
        for family, place in (([()], 0), ([(0,), (3,)], 1), ([(0, 0)], 0), ([(2,), 2], 1)):
            refused(self, BadFamily(place), can_be_held, rank, family)
            refused(self, BadFamily(place), news_for, rank, family, (3,))
        for lot, place in ((None, -1), ("0", -1), ((3,), 0), ((0, 0), 1), ((0, True), 1), ((0, 1, 2, 3), 3)):
            refused(self, BadLot(place), news_for, rank, [(0,)], lot)


class LevelsTest(unittest.TestCase):
    def test_130_levels_that_reach_a_goal(self):
        seen = set()
        for worlds in (1, 2, 3, 4):
            ranks = ranks_of(worlds)
            for rank in ranks[::1 if worlds < 4 else 6]:
                lengths = searched(rank, levelled, lots_of(worlds)[:-1])
                for goal in ranks:
                    wanted = lengths.get(goal.cells)
                    self.assertEqual(fewest_levels(rank, goal), wanted)
                    front = goal.held
                    shape = set(rank.held) <= set(front) and same_outside(rank, goal, front)
                    self.assertIs(wanted is not None, shape)
                    self.check_row(rank, goal, wanted)
                    seen.add(wanted)
        self.assertEqual(seen, {None, 0, 1, 2, 3})

    def check_row(self, rank, goal, wanted):
        row = level_row(rank, goal)
        if wanted is None:
            self.assertIsNone(row)
            return
        cells = [set(cell) & set(goal.held) for cell in rank.cells[1:] if set(cell) & set(goal.held)]
        whole = set(range(rank.worlds))
        self.assertEqual(row, tuple(tuple(sorted(whole - part)) for part in cells))
        after = rank
        for lot in row:
            after = levelled(after, lot)
        self.assertEqual([after, len(row)], [goal, wanted])

    def test_130_twelve_worlds(self):
        strict = Rank.strict(tuple(range(12)))
        self.assertEqual([fewest_levels(strict, Rank.flat(12)), fewest_levels(strict, strict)], [11, 0])
        self.assertEqual(level_row(strict, strict), ())
        self.assertEqual(level_row(Rank.flat(12), strict), None)


class SinksTest(unittest.TestCase):
    def test_131_sinks_that_reach_a_goal(self):
        seen = set()
        for worlds in (1, 2, 3, 4):
            ranks = ranks_of(worlds)
            for rank in ranks[::1 if worlds < 4 else 6]:
                lengths = searched(rank, sunk, lots_of(worlds)[:-1])
                for goal in ranks:
                    wanted = lengths.get(goal.cells)
                    shape = goal.held in rank.beginnings() and same_outside(rank, goal, goal.held)
                    self.assertIs(wanted is not None, shape)
                    self.assertIn(wanted, (None, 0, 1))
                    found = one_sink(rank, goal)
                    able = [x for x in range(worlds) if sunk(rank, [y for y in range(worlds) if y != x]) == goal]
                    if wanted == 0:
                        self.assertEqual(found, ())
                    elif wanted == 1:
                        self.assertEqual(found, tuple(y for y in range(worlds) if y != able[0]))
                    else:
                        self.assertIsNone(found)
                    if found is not None:
                        self.assertEqual(sunk(rank, found), goal)
                    seen.add(wanted)
        self.assertEqual(seen, {None, 0, 1})

    def test_131_each_rank_can_be_made_flat(self):
        for worlds in (1, 2, 3, 4):
            for rank in ranks_of(worlds):
                lot = flat_by_sink(rank)
                self.assertEqual([sunk(rank, lot), lot], [Rank.flat(worlds), one_sink(rank, Rank.flat(worlds))])
        self.assertEqual(flat_by_sink(Rank.strict(tuple(range(12)))), tuple(range(11)))
        self.assertEqual([flat_by_sink(Rank.flat(12)), flat_by_sink(Rank.flat(1))], [(), ()])

    def test_121_goals_of_other_worlds(self):
        for call in (fewest_levels, level_row, one_sink):
            for worlds in (1, 2, 4, 12):
                refused(self, OtherWorlds(worlds), call, Rank.flat(3), Rank.flat(worlds))


class NumbersTest(unittest.TestCase):
    def test_124_strict_ranks_everywhere(self):
        for worlds in range(1, 13):
            least = next(k for k in range(9) if 2 ** k >= worlds)
            self.assertEqual([everywhere(worlds), strict_by_one(worlds)], [least, 2 ** worlds - worlds])
            self.assertEqual(everywhere(worlds), halving(worlds))
        for worlds in (1, 2, 3, 4):
            strict = [rank for rank in ranks_of(worlds) if len(rank) == worlds]
            farthest = max(fewest_leads(strict[0], goal) for goal in strict)
            self.assertEqual(everywhere(worlds), farthest)
            self.assertEqual(strict_by_one(worlds), len({led(strict[0], lot).cells for lot in books_of(worlds)}))

    def test_124_wrong_worlds(self):
        for call in (everywhere, strict_by_one):
            for worlds in NO_INTEGERS + (0, 13, -1):
                refused(self, BadNumber("worlds"), call, worlds)


if __name__ == "__main__":
    unittest.main()
