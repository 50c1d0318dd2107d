"""Points 140 and 141: news about some facts that leave alone what is held about the others."""

import random
import unittest

from helpers import books_of, lots_of, ranks_of, refused
from newsbooks.errors import BadFacts, BadLot, OtherWorlds
from newsbooks.facts import Facts
from newsbooks.ranks import Rank
from newsbooks.splitting import share, splits_on, told_lots
from newsbooks.turning import sunk, turned
from newsbooks.untouched import has_slices, keeps_share, other_share, touched_by

TWO = Facts(["a", "b"], [2, 2])
SIX = Facts(["a", "b"], [2, 3])
EIGHT = Facts(["a", "b", "c"], [2, 2, 2])
TWELVE = Facts(["a", "b"], [3, 4])
BARRED = Facts(["a", "b"], [2, 2], [(1, 1)])


def others(facts, some):
    return tuple(fact for fact in range(facts.many) if fact not in some)


def some_ranks(facts, many, seed):
    """Some ranks, always the same ones, many of which hold what splits."""
    chance = random.Random(seed)
    found = []
    for _ in range(many):
        rows = [chance.sample(range(count), chance.randint(1, count)) for count in facts.counts]
        first = [x for x, row in enumerate(facts.rows) if all(v in able for v, able in zip(row, rows))]
        numbers = [0 if x in first else chance.randint(1, 3) for x in range(facts.worlds)]
        found.append(Rank.of_levels(numbers))
        found.append(Rank.of_levels([abs(sum(row) - len(row)) for row in facts.rows]))
    return found


def cases():
    """(facts, rank, set of facts) with what is held splitting on them."""
    ranks = [(TWO, rank) for rank in ranks_of(4)]
    for facts, many in ((SIX, 60), (EIGHT, 40), (TWELVE, 20)):
        ranks = ranks + [(facts, rank) for rank in some_ranks(facts, many, 140)]
    rows = [(facts, rank, some) for facts, rank in ranks for some in lots_of(facts.many)]
    return [row for row in rows if splits_on(row[0], row[1].held, row[2])]


CASES = cases()


def plain_touched(facts, rank, some):
    """All touched slices, by the words of the document."""
    rows = share(facts, rank.held, others(facts, some))
    found = []
    for part in facts.alike_classes(some):
        mine = tuple(x for x in part if tuple(facts.rows[x][f] for f in others(facts, some)) in rows)
        if rank.best(part) != mine:
            found.append(part)
    return found


class UntouchedTest(unittest.TestCase):
    def test_140_other_shares_and_touched_slices(self):
        seen = set()
        for facts, rank, some in CASES:
            back = list(reversed(some))
            self.assertEqual(other_share(facts, rank, back), share(facts, rank.held, others(facts, some)))
            touched = plain_touched(facts, rank, some)
            self.assertEqual(touched_by(facts, rank, back), touched[0] if touched else None)
            self.assertIs(has_slices(facts, rank, back), not touched)
            seen.add(len(touched))
        self.assertTrue({0, 1, 2} <= seen)

    def test_140_touched_exactly_if_not_best_and_ahead_of_the_rest(self):
        for facts, rank, some in CASES[::3]:
            rows = other_share(facts, rank, some)
            touched = plain_touched(facts, rank, some)
            for part in facts.alike_classes(some):
                mine = [x for x in part if tuple(facts.rows[x][f] for f in others(facts, some)) in rows]
                alike = len({rank.levels[x] for x in mine}) == 1
                ahead = all(rank.levels[x] < rank.levels[y] for x in mine for y in part if y not in mine)
                self.assertIs(part in touched, not (alike and ahead))

    def test_140_lots_that_keep_the_other_share(self):
        for facts, rank, some in CASES[::7]:
            rest = others(facts, some)
            for lot in lots_of(facts.worlds)[::1 if facts.worlds < 5 else 29]:
                wanted = splits_on(facts, lot, some) and share(facts, lot, rest) == share(facts, rank.held, rest)
                self.assertIs(keeps_share(facts, rank, list(reversed(some)), list(reversed(lot))), wanted)
            self.assertIs(keeps_share(facts, rank, some, ()), False)
            self.assertIs(keeps_share(facts, rank, some, rank.held), True)

    def test_140_no_slice_touched_exactly_if_each_told_lot_keeps_the_other_share(self):
        for facts, rank, some in CASES:
            kept = [keeps_share(facts, rank, some, rank.best(lot)) for lot in told_lots(facts, some)]
            self.assertIs(all(kept), has_slices(facts, rank, some))
            for part in plain_touched(facts, rank, some):
                self.assertIs(keeps_share(facts, rank, some, rank.best(part)), False)

    def test_141_rows_of_deeds(self):
        chance = random.Random(141)
        able = [row for row in CASES if has_slices(*row)]
        self.assertGreater(len(able), 60)
        for facts, rank, some in able:
            told = list(told_lots(facts, some))
            wanted = other_share(facts, rank, some)
            for _ in range(3):
                after = rank
                for _ in range(4):
                    word = chance.choice(("lead", "push", "lean", "level"))
                    lot = chance.choice([()] + told[:-1]) if word == "level" else chance.choice(told)
                    after = turned(after, word, lot)
                    self.assertIs(keeps_share(facts, rank, some, after.held), True)
                    self.assertEqual(other_share(facts, after, some), wanted)
                    self.assertIs(has_slices(facts, after, some), True)

    def test_141_sinks(self):
        rank = Rank.strict((0, 1, 2, 3))
        sink = sunk(rank, (0, 1)).held
        self.assertEqual([has_slices(TWO, rank, (0,)), sink], [True, (0, 1, 2)])
        self.assertEqual([splits_on(TWO, sink, (0,)), keeps_share(TWO, rank, (0,), sink)], [False, False])
        refused(self, BadLot(-1), other_share, TWO, sunk(rank, (0, 1)), (0,))

    def test_140_no_facts_and_all(self):
        rank = Rank([(0, 3), (1,), (2,)])
        self.assertEqual([other_share(TWO, rank, ()), other_share(TWO, rank, (1, 0))], [((0, 0), (1, 1)), ((),)])
        self.assertEqual([touched_by(TWO, rank, ()), touched_by(TWO, rank, (0, 1))], [None, None])
        self.assertEqual(touched_by(TWO, Rank.strict((0, 3, 1, 2)), (0,)), (2, 3))

    def test_140_errors_in_their_order(self):
        torn = Rank([(0, 3), (1, 2)])
        for call, more in ((other_share, ()), (touched_by, ()), (has_slices, ()), (keeps_share, ((1,),))):
            refused(self, BadFacts(-1), call, BARRED, Rank.flat(4), None, *more)
            refused(self, BadFacts(-1), call, TWO, Rank.flat(3), None, *more)
            for some, place in (((2,), 0), ((0, 0), 1), ((True,), 0)):
                refused(self, BadFacts(place), call, TWO, Rank.flat(3), some, *more)
            refused(self, OtherWorlds(3), call, TWO, Rank([(0, 2), (1,)]), (0,), *more)
            refused(self, BadLot(-1), call, TWO, torn, (0,), *more)
            refused(self, BadLot(-1), call, TWO, torn, [1], *more)
            call(TWO, torn, (), *more)
        for lot, place in ((None, -1), ((4,), 0), ((0, 0), 1)):
            refused(self, BadLot(place), keeps_share, TWO, Rank.flat(3), (0,), lot)
            refused(self, BadFacts(0), keeps_share, TWO, Rank.flat(3), (2,), lot)
            refused(self, BadLot(place), keeps_share, TWO, torn, (0,), lot)


if __name__ == "__main__":
    unittest.main()
