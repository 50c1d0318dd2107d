"""Points 99 to 101: acts of rows, idle pieces, and pieces that may change places."""

import itertools
import unittest

from helpers import NO_INTEGERS, NO_ROWS, books_of, ranks_of, refused, stands
from newsbooks.acts import act_of, idle_shape, is_idle, may_change, same_act, without_doubles
from newsbooks.errors import BadLot, BadNews, BadNumber, BadWord, TooMany
from newsbooks.folds import leaned_row, led_row, pushed_row
from newsbooks.ranks import Rank
from test_folds import ROWS, some_rows

CALLS = {"lead": led_row, "push": pushed_row, "lean": leaned_row}
NO_WORDS = ("", "Lead", "level", "sink", "ask", "back", "put", None, 3, ["lead"], ("lead",), {})


def newest_parting(row, x, y):
    return next((piece for piece in reversed(row) if (x in piece) != (y in piece)), None)


def wanted_stand(row, x, y):
    """How x stands to y in the act, by the words of the document."""
    piece = newest_parting(row, x, y)
    return 0 if piece is None else -1 if x in piece else 1


def is_made_up_for(row, place, worlds):
    """The second sentence of point 100."""
    for x, y in itertools.product(row[place], set(range(worlds)) - set(row[place])):
        if newest_parting(row[place + 1:], x, y) is None:
            older = newest_parting(row[:place], x, y)
            if older is None or x not in older:
                return False
    return True


class ActsTest(unittest.TestCase):
    def test_99_acts(self):
        for worlds, row in ROWS:
            act = act_of([list(reversed(piece)) for piece in row], worlds)
            for x, y in itertools.product(range(worlds), repeat=2):
                self.assertEqual(stands(act.levels, x, y), wanted_stand(row, x, y))
            self.assertEqual(act, led_row(Rank.flat(worlds), row))
            self.assertEqual(len(act) == 1, all(len(piece) == worlds for piece in row))
            for rank in ranks_of(worlds)[::5]:
                self.assertEqual(led_row(rank, row), act * rank)
        self.assertEqual(act_of([], 12), Rank.flat(12))
        self.assertEqual(act_of([tuple(range(x)) for x in range(12, 0, -1)], 12), Rank.strict(tuple(range(12))))

    def test_99_newer_news(self):
        for worlds, row in ROWS:
            for place in range(len(row) + 1):
                self.assertEqual(act_of(row[place:], worlds) * act_of(row[:place], worlds), act_of(row, worlds))

    def test_99_rows_with_the_same_act(self):
        for worlds in (1, 2, 3):
            rows = [row for many, row in ROWS if many == worlds][:60]
            ranks = ranks_of(worlds)
            led = {row: [led_row(rank, row).cells for rank in ranks] for row in rows}
            seen = set()
            for one, other in itertools.product(rows, repeat=2):
                same = led[one] == led[other]
                self.assertIs(same_act(list(one), other, worlds), same)
                seen.add(same)
            self.assertEqual(seen, {True} if worlds == 1 else {True, False})

    def test_100_idle_pieces(self):
        seen = set()
        for worlds, row in ROWS:
            for place in range(len(row)):
                idle = act_of(row[:place] + row[place + 1:], worlds) == act_of(row, worlds)
                self.assertIs(is_idle(list(row), worlds, place), idle)
                self.assertIs(idle_shape(list(row), worlds, place), idle)
                self.assertEqual(is_made_up_for(row, place, worlds), idle)
                seen.add((worlds, idle))
        self.assertEqual(len(seen), 7)

    def test_100_rows_without_doubles(self):
        for worlds, row in ROWS + [(2, row) for row in some_rows(2, 8, 40, 100)]:
            found = without_doubles([list(reversed(piece)) for piece in row], worlds)
            self.assertEqual(found, tuple(piece for k, piece in enumerate(row) if piece not in row[k + 1:]))
            self.assertTrue(same_act(found, row, worlds))

    def test_101_neighbours_that_may_change_places(self):
        for worlds in (1, 2, 3, 4):
            ranks = ranks_of(worlds)
            if worlds == 4:
                ranks = ranks[::3]
            for word, call in CALLS.items():
                for one, other in itertools.combinations_with_replacement(books_of(worlds), 2):
                    same = all(call(rank, [one, other]) == call(rank, [other, one]) for rank in ranks)
                    lots = (list(reversed(one)), list(reversed(other)))
                    self.assertIs(may_change(lots[0], lots[1], word, worlds), same, (word, one, other))
                    self.assertIs(may_change(lots[1], lots[0], word, worlds), same)
        self.assertTrue(same_act([(0,), (1,), (0,)], [(1,), (0,), (0,)], 2))
        self.assertFalse(may_change((0,), (1,), "lead", 2))

    def test_99_refused_rows(self):
        calls = [lambda row: act_of(row, 3), lambda row: same_act(row, None, 3), lambda row: same_act([], row, 3),
                 lambda row: is_idle(row, 3, None), lambda row: idle_shape(row, 3, None),
                 lambda row: without_doubles(row, 3)]
        for call in calls:
            for row in NO_ROWS:
                refused(self, BadNews(-1), call, row)
            for piece in NO_ROWS + ((), [], (3,), (1, 1), (True,)):
                refused(self, BadNews(1), call, [(0,), piece, None])
            refused(self, TooMany(20), call, [(0,)] * 21)
        twenty = [(0,), (1,)] * 10
        self.assertTrue(same_act(twenty, twenty[18:], 2))
        self.assertEqual(without_doubles(twenty, 2), ((0,), (1,)))
        self.assertEqual([is_idle(twenty, 2, 17), is_idle(twenty, 2, 19)], [True, False])

    def test_99_refused_worlds(self):
        for worlds in NO_INTEGERS + (0, 13):
            refused(self, BadNumber("worlds"), act_of, "no row", worlds)
            refused(self, BadNumber("worlds"), same_act, "no row", "no row", worlds)
            refused(self, BadNumber("worlds"), is_idle, "no row", worlds, "no place")
            refused(self, BadNumber("worlds"), idle_shape, "no row", worlds, "no place")
            refused(self, BadNumber("worlds"), without_doubles, "no row", worlds)
            refused(self, BadNumber("worlds"), may_change, "no lot", "no lot", "no word", worlds)

    def test_100_refused_places(self):
        for call in (is_idle, idle_shape):
            for place in NO_INTEGERS + (-1, 2):
                refused(self, BadNumber("place"), call, [(0,), (1,)], 3, place)
            refused(self, BadNumber("place"), call, [], 3, 0)

    def test_101_refused_arguments(self):
        for lot in NO_ROWS + ((), []):
            refused(self, BadLot(-1), may_change, lot, "no lot", "no word", 3)
            refused(self, BadLot(-1), may_change, lot, (0,), "lead", 3)
            refused(self, BadLot(-1), may_change, (0,), lot, "no word", 3)
        for entry in NO_INTEGERS + (3, -1, 2):
            refused(self, BadLot(1), may_change, [2, entry, 0], "no lot", "no word", 3)
            refused(self, BadLot(1), may_change, (0,), [2, entry, 0], "no word", 3)
        for word in NO_WORDS:
            refused(self, BadWord(word), may_change, (0,), (0,), word, 3)


if __name__ == "__main__":
    unittest.main()
