"""Points 76, 77, 82 and 83: give-up tables, those of ranks, and giving up before putting in."""

import itertools
import unittest

from helpers import NO_INTEGERS, NO_ROWS, lots_of, ranks_of, refused
from newsbooks.errors import BadLot, BadNumber, BadTable, TooMany
from newsbooks.givings import Giving
from newsbooks.lots import inside, lot_key, meets, rest_of
from newsbooks.ranks import Rank
from newsbooks.turning import answer_of, turned


def given_up(worlds):
    """The lots that may be given up."""
    return lots_of(worlds)[:-1]


class GivingTest(unittest.TestCase):
    def test_76_give_up_tables(self):
        giving = Giving(2, [[[1], [1, 0]], ((), [0]), ([0], ())])
        self.assertEqual(giving.pairs, (((), (0,)), ((0,), ()), ((1,), (0, 1))))
        self.assertEqual([giving.worlds, giving.held, len(giving)], [2, (0,), 3])
        self.assertEqual([giving.kept(()), giving.kept([0]), giving.kept((1,))], [(0,), (), (0, 1)])
        for worlds in range(1, 7):
            pairs = [(lot, lot[:1]) for lot in given_up(worlds)]
            giving = Giving(worlds, list(reversed(pairs)))
            self.assertEqual([giving.pairs, len(giving), giving.held], [tuple(pairs), 2 ** worlds - 1, ()])
            self.assertEqual([lot for lot, _ in giving.pairs], sorted([lot for lot, _ in pairs], key=lot_key))
            for lot, answer in pairs:
                self.assertEqual(giving.kept(list(reversed(lot))), answer)

    def test_76_one_world(self):
        self.assertEqual(Giving(1, [((), (0,))]).held, (0,))
        self.assertEqual(Giving(1, [((), ())]).pairs, (((), ()),))
        refused(self, BadTable(1), Giving, 1, [((), ()), ((0,), (0,))])
        refused(self, BadTable(0), Giving, 1, [])

    def test_76_refused_worlds(self):
        for worlds in NO_INTEGERS + (0, -1, 7, 12, 13):
            refused(self, BadNumber("worlds"), Giving, worlds, "no answers")

    def test_76_refused_answers(self):
        for answers in NO_ROWS:
            refused(self, BadTable(-1), Giving, 2, answers)
        good = [((), (0,)), ((0,), (0, 1)), ((1,), (0,))]
        wrong = NO_ROWS + ((), ((),), ((1,), (1,), (1,)), ((0, 1), (0,)), ((1, 0), (0,)), ((0,), (0,)), ((), ()))
        wrong = wrong + (((2,), (0,)), ((1, 1), ()), ((1,), (2,)), ((1,), (0, 0)), ((True,), ()), ((1,), (True,)))
        wrong = wrong + ((None, ()), ((1,), None), ("1", "0"), ("", ""))
        for entry in wrong:
            refused(self, BadTable(2), Giving, 2, good[:2] + [entry, None])
        for many in (0, 1, 2):
            refused(self, BadTable(many), Giving, 2, good[:many])
        refused(self, BadTable(3), Giving, 2, good + [((1,), (0,))])

    def test_76_refused_lots(self):
        giving = Giving.level_of(Rank.flat(3))
        for lot in NO_ROWS + ((0, 1, 2), [2, 1, 0]):
            refused(self, BadLot(-1), giving.kept, lot)
        for entry in NO_INTEGERS + (3, -1, 2):
            refused(self, BadLot(1), giving.kept, [2, entry, 0])

    def test_76_equal_give_up_tables(self):
        one = Giving(2, [((), (0,)), ((0,), (0, 1)), ((1,), (0,))])
        self.assertTrue(one == Giving(2, [[[1], [0]], [[0], [1, 0]], [[], [0]]]))
        for other in (Giving(2, [((), (0,)), ((0,), (0, 1)), ((1,), ())]), Giving(1, [((), (0,))]), one.pairs, None):
            self.assertFalse(one == other)
            self.assertTrue(one != other)

    def test_77_level_and_sink_tables(self):
        for worlds in (1, 2, 3, 4):
            for rank in ranks_of(worlds):
                level, sink = Giving.level_of(rank), Giving.sink_of(rank)
                for lot in given_up(worlds):
                    self.assertEqual(level.kept(lot), answer_of(rank, "level", lot))
                    self.assertEqual(sink.kept(lot), answer_of(rank, "sink", lot))
                self.assertEqual([level.held, sink.held, level.worlds, sink.worlds], [rank.held] * 2 + [worlds] * 2)

    def test_77_six_worlds_and_seven(self):
        strict = Rank.strict((5, 4, 3, 2, 1, 0))
        self.assertEqual(len(Giving.level_of(strict)), 63)
        self.assertEqual(Giving.level_of(strict).kept((5, 4, 2)), (3, 5))
        self.assertEqual(Giving.sink_of(strict).kept((5, 4, 2)), (3, 4, 5))
        self.assertEqual(Giving.sink_of(Rank.flat(6)).kept((0, 1)), (0, 1, 2, 3, 4, 5))
        for worlds in (7, 12):
            refused(self, TooMany(6), Giving.level_of, Rank.flat(worlds))
            refused(self, TooMany(6), Giving.sink_of, Rank.strict(tuple(range(worlds))))

    def test_82_levels_keep_less_than_sinks(self):
        for worlds in (1, 2, 3, 4):
            for rank in ranks_of(worlds):
                level, sink = Giving.level_of(rank), Giving.sink_of(rank)
                for lot in given_up(worlds):
                    self.assertTrue(inside(level.kept(lot), sink.kept(lot)))
                    best = rank.best(rest_of(lot, worlds))
                    front = [x for x in range(worlds) if rank.levels[x] <= rank.levels[best[0]]]
                    same = all(x in rank.held or x in best for x in front)
                    self.assertEqual(level.kept(lot) == sink.kept(lot), same)

    def test_83_giving_up_before_putting_in(self):
        seen = set()
        for worlds in (1, 2, 3, 4):
            for rank, lot in itertools.product(ranks_of(worlds), lots_of(worlds)[1:]):
                rest = rest_of(lot, worlds)
                front = [x for x in rest if rank.levels[x] <= rank.levels[rank.best(lot)[0]]]
                same = meets(rank.held, lot) or all(x in rank.held for x in front)
                seen.add(same)
                for word in ("lead", "push", "lean"):
                    wanted = turned(rank, word, lot)
                    self.assertEqual(turned(turned(rank, "level", rest), word, lot), wanted)
                    self.assertEqual(turned(turned(rank, "sink", rest), word, lot) == wanted, same)
        self.assertEqual(seen, {True, False})


if __name__ == "__main__":
    unittest.main()
