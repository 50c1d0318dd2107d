"""Points 31 to 33: deeds; and points 84 to 88: levels and sinks one behind the other."""

import itertools
import unittest

from helpers import NO_INTEGERS, NO_ROWS, best_of, books_of, lots_of, ranks_of, refused, stands
from newsbooks import turning
from newsbooks.errors import BadLot, BadNumber, BadWord, OtherWorlds
from newsbooks.lots import common, inside, meets, minus, plus, rest_of
from newsbooks.ranks import Rank
from newsbooks.turning import (
    AskDeed, Deed, GiveDeed, LeadDeed, LeanDeed, LevelDeed, PushDeed, PutDeed, SinkDeed,
    answer_of, deed_named, leaned, led, levelled, pushed, sunk, turned)

WORDS = ("lead", "push", "lean", "level", "sink", "ask")
CALLS = {"lead": led, "push": pushed, "lean": leaned, "level": levelled, "sink": sunk}
CLASSES = {"lead": LeadDeed, "push": PushDeed, "lean": LeanDeed, "level": LevelDeed, "sink": SinkDeed, "ask": AskDeed}


def lots_for(word, worlds):
    """The lots that a deed of this word takes."""
    lots = lots_of(worlds)
    return lots[:-1] if word in ("level", "sink") else lots[1:]


def front_of(levels, word, lot):
    """The worlds that the deed makes the first cell, None if it makes none."""
    worlds = range(len(levels))
    held = best_of(levels, worlds)
    if word in ("push", "lean"):
        return best_of(levels, lot)
    if word in ("level", "sink") and set(held) <= set(lot):
        best = best_of(levels, [x for x in worlds if x not in lot])
        if word == "level":
            return tuple(sorted(held + best))
        return tuple(x for x in worlds if levels[x] <= levels[best[0]])
    return None


def stands_after(levels, word, lot, x, y):
    """How x stands to y behind the deed, by the words of the document."""
    if word == "lead" and (x in lot) != (y in lot):
        return -1 if x in lot else 1
    front = front_of(levels, word, lot)
    if front is not None and (x in front or y in front):
        return (y in front) - (x in front) if (x in front) != (y in front) else 0
    if word == "lean" and stands(levels, x, y) == 0 and (x in lot) != (y in lot):
        return -1 if x in lot else 1
    return stands(levels, x, y)


class DeedsTest(unittest.TestCase):
    def test_31_deeds(self):
        for worlds in (1, 2, 3, 4):
            for rank in ranks_of(worlds):
                for word in WORDS:
                    for lot in lots_for(word, worlds):
                        self.check_deed(rank, word, lot)

    def check_deed(self, rank, word, lot):
        after = turned(rank, word, list(reversed(lot)))
        self.assertIsInstance(after, Rank)
        for x, y in itertools.product(range(rank.worlds), repeat=2):
            wanted = stands_after(rank.levels, word, lot, x, y)
            self.assertEqual(after.is_before(x, y), wanted == -1, (rank.cells, word, lot, x, y))
            self.assertEqual(after.is_alike(x, y), wanted == 0, (rank.cells, word, lot, x, y))
        if word != "ask":
            self.assertEqual(CALLS[word](rank, list(lot)), after)
        answer = rank.best(lot) if word == "ask" else after.held
        self.assertEqual(answer_of(rank, word, list(reversed(lot))), answer)
        deed = deed_named(word, list(reversed(lot)), rank.worlds)
        self.assertEqual([deed.lot, deed.worlds, deed.WORD], [lot, rank.worlds, word])
        self.assertIs(type(deed), CLASSES[word])
        self.assertEqual(deed.on_rank(rank), after)

    def test_31_twelve_worlds(self):
        rank = Rank.strict(tuple(range(12)))
        self.assertEqual(led(rank, (11, 5)).cells[:3], ((5,), (11,), (0,)))
        self.assertEqual(pushed(rank, (11, 5)).cells[:2], ((5,), (0,)))
        self.assertEqual(leaned(Rank.flat(12), (11, 5)).cells, ((5, 11), (0, 1, 2, 3, 4, 6, 7, 8, 9, 10)))
        self.assertEqual(levelled(rank, tuple(range(11))).held, (0, 11))
        self.assertEqual(sunk(rank, tuple(range(11))), Rank.flat(12))

    def test_31_lean_parts_alike_worlds(self):
        rank = Rank([(0, 1), (2, 3, 4), (5,)])
        self.assertEqual(leaned(rank, (2, 1, 3, 5)).cells, ((1,), (0,), (2, 3), (4,), (5,)))
        self.assertEqual(leaned(rank, (5, 3)).cells, ((3,), (0, 1), (2, 4), (5,)))
        self.assertEqual(leaned(rank, (5,)).cells, ((5,), (0, 1), (2, 3, 4)))

    def test_31_giving_up_the_empty_lot_turns_nothing(self):
        for rank in ranks_of(3):
            self.assertEqual([levelled(rank, ()), sunk(rank, []), turned(rank, "ask", (0, 2))], [rank] * 3)

    def test_31_refused_lots(self):
        rank = Rank.flat(3)
        for word in WORDS:
            calls = [lambda lot: turned(rank, word, lot), lambda lot: answer_of(rank, word, lot),
                     lambda lot: deed_named(word, lot, 3), lambda lot: CLASSES[word](lot, 3)]
            calls = calls + ([lambda lot: CALLS[word](rank, lot)] if word in CALLS else [])
            for call in calls:
                for lot in NO_ROWS + (((0, 1, 2), [2, 1, 0]) if word in ("level", "sink") else ((), [])):
                    refused(self, BadLot(-1), call, lot)
                for entry in NO_INTEGERS + (3, -1, 2):
                    refused(self, BadLot(1), call, [2, entry, 0, 1])
        refused(self, BadLot(-1), levelled, Rank.flat(1), (0,))
        self.assertEqual(sunk(Rank.flat(1), ()), Rank.flat(1))

    def test_31_refused_words(self):
        rank = Rank.flat(2)
        for word in ("", "Lead", "put", "give", "deed", "back", "lead ", None, 3, ["lead"], ("lead",), {}):
            refused(self, BadWord(word), turned, rank, word, "no lot")
            refused(self, BadWord(word), answer_of, rank, word, "no lot")
            refused(self, BadWord(word), deed_named, word, "no lot", 2)
            refused(self, BadNumber("worlds"), deed_named, word, "no lot", 0)

    def test_31_classes_of_deeds(self):
        for kind, base in ((PutDeed, Deed), (AskDeed, Deed), (GiveDeed, Deed), (LeadDeed, PutDeed),
                           (PushDeed, PutDeed), (LeanDeed, PutDeed), (LevelDeed, GiveDeed), (SinkDeed, GiveDeed)):
            self.assertEqual(kind.__bases__, (base,))
        words = [kind.WORD for kind in (Deed, PutDeed, AskDeed, GiveDeed)]
        self.assertEqual(words, ["deed", "put", "ask", "give"])
        for word in WORDS[:5]:
            self.assertEqual(CLASSES[word].WORD, word)
            self.assertIn("on_rank", vars(CLASSES[word]))
        for lot in lots_of(2):
            deed = Deed(list(reversed(lot)), 2)
            self.assertEqual([deed.lot, deed.worlds, deed.WORD], [lot, 2, "deed"])
            self.assertEqual(deed.on_rank(Rank.strict((1, 0))), Rank.strict((1, 0)))
        for kind in (PutDeed, AskDeed):
            self.assertEqual(kind((1, 0), 2).lot, (0, 1))
            refused(self, BadLot(-1), kind, (), 2)
            self.assertEqual(kind((1,), 2).on_rank(Rank.strict((0, 1))), Rank.strict((0, 1)))
        self.assertEqual(GiveDeed([], 2).lot, ())
        refused(self, BadLot(-1), GiveDeed, (1, 0), 2)
        self.assertEqual(GiveDeed((0,), 2).on_rank(Rank.strict((0, 1))), Rank.strict((0, 1)))

    def test_31_deeds_of_other_worlds(self):
        for kind in (Deed, PutDeed, AskDeed, GiveDeed) + tuple(CLASSES.values()):
            for worlds in (0, 13) + NO_INTEGERS:
                refused(self, BadNumber("worlds"), kind, "no lot", worlds)
            refused(self, BadLot(-1), kind, None, 3)
            refused(self, BadLot(0), kind, [3], 3)
            refused(self, OtherWorlds(2), kind((1,), 3).on_rank, Rank.flat(2))
            refused(self, OtherWorlds(4), kind((1,), 3).on_rank, Rank.flat(4))

    def test_32_answers(self):
        for rank in ranks_of(3):
            for lot in books_of(3):
                for word in ("lead", "push", "lean", "ask"):
                    self.assertEqual(answer_of(rank, word, lot), rank.best(lot))
            for lot in lots_of(3)[:-1]:
                self.assertEqual(answer_of(rank, "level", lot), levelled(rank, lot).held)
                self.assertEqual(answer_of(rank, "sink", lot), sunk(rank, lot).held)

    def test_33_the_same_deed_twice(self):
        for rank in ranks_of(4):
            for word in WORDS:
                for lot in lots_for(word, 4):
                    once = turned(rank, word, lot)
                    self.assertEqual(turned(once, word, lot), once)

    def test_33_leads(self):
        for rank in ranks_of(3):
            for one in books_of(3):
                self.assertEqual(led(rank, one), Rank.two(one, 3) * rank)
                for other in books_of(3):
                    twice = led(led(rank, other), one)
                    self.assertEqual(led(led(led(rank, one), other), one), twice)

    def test_31_words_of_the_module(self):
        for name in ("led", "pushed", "leaned", "levelled", "sunk", "turned", "answer_of", "deed_named"):
            self.assertEqual(getattr(turning, name).__module__, "newsbooks.turning")


class GivingUpTest(unittest.TestCase):
    def test_84_two_levels(self):
        for worlds in (2, 3):
            for rank in ranks_of(worlds):
                lots = [lot for lot in lots_of(worlds)[:-1] if inside(rank.held, lot)]
                for one, other in itertools.product(lots, repeat=2):
                    best_one = rank.best(rest_of(one, worlds))
                    best_other = rank.best(rest_of(other, worlds))
                    first = levelled(levelled(rank, one), other)
                    second = levelled(levelled(rank, other), one)
                    apart = inside(best_one, other) and inside(best_other, one)
                    self.assertEqual(first == second, apart or best_one == best_other)
                    if first == second:
                        self.assertEqual(first.held, plus(plus(rank.held, best_one), best_other))

    def test_85_sinks_in_any_order(self):
        for rank in ranks_of(3):
            for row in itertools.product(lots_of(3)[:-1], repeat=3):
                after = rank
                for lot in row:
                    after = sunk(after, lot)
                self.assertEqual(after, max([sunk(rank, lot) for lot in row], key=lambda alone: len(alone.held)))

    def test_86_best_lots_behind_a_level(self):
        for rank in ranks_of(4):
            for lot in [lot for lot in lots_of(4)[:-1] if inside(rank.held, lot)]:
                front = plus(rank.held, rank.best(rest_of(lot, 4)))
                after = levelled(rank, lot)
                for asked in books_of(4):
                    wanted = common(front, asked) if meets(front, asked) else rank.best(asked)
                    self.assertEqual(after.best(asked), wanted)

    def test_87_levels_and_sinks(self):
        for rank in ranks_of(3):
            for one in lots_of(3)[:-1]:
                self.assertEqual(levelled(sunk(rank, one), one), sunk(rank, one))
                self.assertEqual(sunk(levelled(rank, one), one), levelled(rank, one))
                for other in lots_of(3)[:-1]:
                    best_one = rank.best(rest_of(one, 3))
                    if inside(rank.held, common(one, other)) and inside(best_one, other):
                        best_other = rank.best(rest_of(other, 3))
                        same = sunk(levelled(rank, one), other) == sunk(rank, other)
                        self.assertEqual(same, rank.levels[best_one[0]] <= rank.levels[best_other[0]])

    def test_88_rows_of_levels(self):
        for rank in ranks_of(3):
            for row in itertools.product(lots_of(3)[:-1], repeat=3):
                after, allowed = rank, set(rank.held)
                for lot in row:
                    allowed = allowed | set(after.best(rest_of(lot, 3)))
                    after = levelled(after, lot)
                self.assertTrue(inside(rank.held, after.held))
                self.assertTrue(set(after.held) <= allowed)
        for rank in ranks_of(4):
            for row in itertools.permutations(minus((0, 1, 2, 3), rank.held)):
                after = rank
                for world in row:
                    after = levelled(after, rest_of((world,), 4))
                self.assertEqual(after, Rank.flat(4))


if __name__ == "__main__":
    unittest.main()
