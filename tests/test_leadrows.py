"""Points 121 to 125: the shortest rows that lead or push one rank to another."""

import itertools
import unittest

from helpers import NO_INTEGERS, books_of, ranks_of, refused
from newsbooks.acts import act_of
from newsbooks.errors import BadNumber, OtherWorlds
from newsbooks.folds import led_row, pushed_row
from newsbooks.leadrows import act_row, fewest_act, fewest_leads, halving, lead_row, steps_down
from newsbooks.products import finer
from newsbooks.pushrows import fewest_pushes, push_row, rising_end
from newsbooks.ranks import Rank
from newsbooks.turning import led, pushed

CALLS = (steps_down, fewest_leads, lead_row, rising_end, fewest_pushes, push_row)


def distances(start, turn):
    """How many pieces it takes from this rank to each one that rows can reach, by a search among all rows."""
    found = {start.cells: 0}
    queue = [start]
    for rank in queue:
        for lot in books_of(start.worlds):
            later = turn(rank, lot)
            if later.cells not in found:
                found[later.cells] = found[rank.cells] + 1
                queue.append(later)
    return found


def lies_at(rank, goal):
    """Where the cells of the goal lie in the rank, None if one lies nowhere."""
    places = []
    for cell in goal.cells:
        within = [k for k, part in enumerate(rank.cells) if set(cell) <= set(part)]
        if not within:
            return None
        places.append(within[0])
    return places


def pairs():
    """All pairs of ranks of up to three worlds, some of four."""
    found = []
    for worlds in (1, 2, 3):
        found = found + list(itertools.product(ranks_of(worlds), repeat=2))
    fours = ranks_of(4)
    return found + [(rank, goal) for rank in fours[::9] for goal in fours]


PAIRS = pairs()
STARTS = {rank.cells: rank for rank, _ in PAIRS}
LEADS = {cells: distances(rank, led) for cells, rank in STARTS.items()}
PUSHES = {cells: distances(rank, pushed) for cells, rank in STARTS.items()}


class LeadRowsTest(unittest.TestCase):
    def test_122_steps_down(self):
        for rank, goal in PAIRS:
            places = lies_at(rank, goal)
            self.assertEqual(places is not None, finer(goal, rank))
            wanted = places and len([k for k in range(len(places) - 1) if places[k + 1] <= places[k]])
            self.assertEqual(steps_down(rank, goal), wanted)

    def test_122_some_row_leads_exactly_if_the_goal_is_within_reach(self):
        seen = set()
        for rank, goal in PAIRS:
            wanted = LEADS[rank.cells].get(goal.cells)
            self.assertEqual(wanted is not None, lies_at(rank, goal) is not None)
            self.assertEqual(fewest_leads(rank, goal), wanted)
            row = lead_row(rank, goal)
            self.assertEqual(row is None, wanted is None)
            if row is not None:
                self.assertEqual([led_row(rank, row), len(row)], [goal, wanted])
                self.check_lead_row(rank, goal, row)
            seen.add(wanted)
        self.assertEqual(seen, {None, 0, 1, 2})

    def check_lead_row(self, rank, goal, row):
        """The lead row by the words of the document."""
        places, numbers = lies_at(rank, goal), [0]
        for k in range(1, len(places)):
            numbers.append(numbers[-1] + (places[k] <= places[k - 1]))
        for j, piece in enumerate(row):
            worlds = [x for cell, m in zip(goal.cells, numbers) for x in cell if m // 2 ** j % 2 == 0]
            self.assertEqual(piece, tuple(sorted(worlds)))

    def test_122_twelve_worlds(self):
        strict = Rank.strict(tuple(range(12)))
        back = Rank.strict(tuple(reversed(range(12))))
        row = lead_row(strict, back)
        self.assertEqual([len(row), fewest_leads(strict, back), steps_down(strict, back)], [4, 4, 11])
        self.assertEqual(led_row(strict, row), back)
        self.assertEqual([lead_row(strict, strict), fewest_leads(strict, strict)], [(), 0])
        self.assertEqual([lead_row(strict, Rank.flat(12)), fewest_leads(strict, Rank.flat(12))], [None, None])
        self.assertEqual(fewest_leads(Rank.flat(12), strict), 4)

    def test_124_halvings(self):
        for number in range(1, 300):
            wanted = next(k for k in range(20) if 2 ** k >= number)
            self.assertEqual(halving(number), wanted)
        self.assertEqual([halving(2 ** 33), halving(2 ** 33 + 1), halving(10 ** 10)], [33, 34, 34])
        for number in NO_INTEGERS + (0, -1, -5):
            refused(self, BadNumber("number"), halving, number)

    def test_124_acts(self):
        for worlds in (1, 2, 3, 4):
            from_flat = distances(Rank.flat(worlds), led)
            for rank in ranks_of(worlds):
                row = act_row(rank)
                self.assertEqual([act_of(row, worlds), len(row)], [rank, from_flat[rank.cells]])
                self.assertEqual([fewest_act(rank), halving(len(rank))], [len(row)] * 2)
                self.assertEqual(row, lead_row(Rank.flat(worlds), rank))
        self.assertEqual([act_row(Rank.flat(12)), fewest_act(Rank.flat(12))], [(), 0])
        self.assertEqual(fewest_act(Rank.strict(tuple(range(12)))), 4)

    def test_124_rows_of_some_pieces(self):
        for many in (0, 1, 2, 3):
            for row in itertools.product(books_of(3), repeat=many):
                act = act_of(row, 3)
                self.assertLessEqual(len(act), 2 ** many)
                led_to = {led_row(rank, row).cells for rank in ranks_of(3)}
                self.assertEqual(len(led_to) == 1, len(act) == 3)
                self.assertTrue(len(act) < 3 or led_to == {act.cells})

    def test_124_strict_ranks(self):
        for worlds in (1, 2, 3, 4):
            strict = [rank for rank in ranks_of(worlds) if len(rank) == worlds]
            for rank in strict[:6]:
                for goal in strict:
                    self.assertLessEqual(fewest_leads(rank, goal), halving(worlds))
                    self.assertLessEqual(fewest_pushes(rank, goal), worlds - 1)
                turned = Rank(rank.cells[::-1])
                self.assertEqual([fewest_leads(rank, turned), fewest_pushes(rank, turned)],
                                 [halving(worlds), worlds - 1])
                later = {led(rank, lot).cells for lot in books_of(worlds)}
                self.assertEqual(len(later), 2 ** worlds - worlds)
                self.assertTrue(rank.cells in later and all(len(cells) == worlds for cells in later))

    def test_125_one_after_the_other(self):
        fours = ranks_of(4)[::7]
        for ranks in (ranks_of(3), fours):
            for r, s, t in itertools.product(ranks, repeat=3):
                if finer(s, r) and finer(t, s):
                    self.assertTrue(finer(t, r))
                    self.assertLessEqual(fewest_leads(r, t), fewest_leads(r, s) + fewest_leads(s, t))
                    self.assertLessEqual(fewest_pushes(r, t), fewest_pushes(r, s) + fewest_pushes(s, t))
        for rank, goal in PAIRS:
            if finer(goal, rank):
                self.assertLessEqual(fewest_leads(rank, goal), fewest_pushes(rank, goal))

    def test_121_goals_of_other_worlds(self):
        for call in CALLS:
            for worlds in (1, 2, 4, 12):
                refused(self, OtherWorlds(worlds), call, Rank.flat(3), Rank.flat(worlds))


class PushRowsTest(unittest.TestCase):
    def test_123_rising_ends(self):
        for rank, goal in PAIRS:
            places = lies_at(rank, goal)
            wanted = None
            if places is not None:
                rising = [t for t in range(1, len(places) + 1)
                          if all(places[k] < places[k + 1] for k in range(len(places) - t, len(places) - 1))]
                wanted = max(rising)
            self.assertEqual(rising_end(rank, goal), wanted)

    def test_123_some_row_pushes_exactly_if_the_goal_is_within_reach(self):
        seen = set()
        for rank, goal in PAIRS:
            wanted = PUSHES[rank.cells].get(goal.cells)
            self.assertEqual(wanted is not None, lies_at(rank, goal) is not None)
            self.assertEqual(fewest_pushes(rank, goal), wanted)
            row = push_row(rank, goal)
            self.assertEqual(row is None, wanted is None)
            if row is not None:
                self.assertEqual([pushed_row(rank, row), len(row)], [goal, wanted])
                self.assertEqual(row, tuple(reversed(goal.cells[:len(goal) - rising_end(rank, goal)])))
            seen.add(wanted)
        self.assertEqual(seen, {None, 0, 1, 2, 3})

    def test_123_twelve_worlds(self):
        strict = Rank.strict(tuple(range(12)))
        back = Rank.strict(tuple(reversed(range(12))))
        self.assertEqual([fewest_pushes(strict, back), rising_end(strict, back)], [11, 1])
        self.assertEqual(pushed_row(strict, push_row(strict, back)), back)
        self.assertEqual([push_row(strict, strict), rising_end(strict, strict)], [(), 12])
        self.assertEqual([push_row(strict, Rank.flat(12)), rising_end(strict, Rank.flat(12))], [None, None])
        self.assertEqual(push_row(Rank.flat(1), Rank.flat(1)), ())


if __name__ == "__main__":
    unittest.main()
