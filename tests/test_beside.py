"""Points 142 to 145: ranks that are beside on some facts, two stores, and deeds about some facts."""

import itertools
import random
import unittest

from helpers import NO_ROWS, lots_of, ranks_of, refused, stands
from newsbooks.beside import beside, beside_break, narrowed_to, run_about, two_stores
from newsbooks.coming import can_come
from newsbooks.errors import BadDeed, BadFacts, BadNews, OtherWorlds, TooMany
from newsbooks.facts import Facts
from newsbooks.folds import led_row, leaned_row, pushed_row
from newsbooks.journals import journal_of
from newsbooks.lots import common
from newsbooks.narrowing import Narrowing, met, spread
from newsbooks.parting import narrowed_journal
from newsbooks.ranks import Rank
from newsbooks.splitting import told_lots
from newsbooks.turning import answer_of, turned
from stores import NO_WORDS

TWO = Facts(["a", "b"], [2, 2])
SIX = Facts(["a", "b"], [2, 3])
EIGHT = Facts(["a", "b", "c"], [2, 2, 2])
TWELVE = Facts(["a", "b"], [3, 4])
BARRED = Facts(["a", "b"], [2, 2], [(1, 1)])
FLAT = Rank.flat(4)


def others(facts, some):
    return tuple(fact for fact in range(facts.many) if fact not in some)


def alike(facts, x, y, some):
    return all(facts.rows[x][fact] == facts.rows[y][fact] for fact in some)


def beside_ranks(facts, many, seed):
    """Ranks in which numbers of the values add up: beside on each fact; some of them changed a little."""
    chance = random.Random(seed)
    found = []
    for _ in range(many):
        weights = [[chance.randint(0, 2) * 4 ** fact for _ in range(count)] for fact, count in enumerate(facts.counts)]
        numbers = [sum(weights[fact][value] for fact, value in enumerate(row)) for row in facts.rows]
        found.append(Rank.of_levels(numbers))
        numbers[chance.randrange(facts.worlds)] += chance.randint(1, 2)
        found.append(Rank.of_levels(numbers))
    return found


RANKS = [(TWO, rank) for rank in ranks_of(4)] + [(SIX, rank) for rank in beside_ranks(SIX, 20, 142)]
RANKS = RANKS + [(EIGHT, rank) for rank in beside_ranks(EIGHT, 12, 143)]
RANKS = RANKS + [(TWELVE, rank) for rank in beside_ranks(TWELVE, 6, 144)]
CASES = [(facts, rank, some) for facts, rank in RANKS for some in lots_of(facts.many)]


def breaks(facts, rank, some):
    """All four worlds for which point 142 fails with slices of the facts, by its words."""
    rest = others(facts, some)
    worlds = range(facts.worlds)
    found = []
    for x, y in itertools.product(worlds, repeat=2):
        if not alike(facts, x, y, some):
            continue
        for u in worlds:
            if alike(facts, x, u, some) or not alike(facts, x, u, rest):
                continue
            for v in worlds:
                if alike(facts, u, v, some) and alike(facts, y, v, rest):
                    if stands(rank.levels, x, y) != stands(rank.levels, u, v):
                        found.append((x, y, u, v))
    return found


def common_best(facts, rank, some, lot, other):
    """The common part of the best slices that the lots meet."""
    found = range(facts.worlds)
    for chosen, mine in ((some, lot), (others(facts, some), other)):
        slices = facts.alike_classes(chosen)
        best = Narrowing(slices, facts.worlds)(rank).best(met(slices, mine))
        found = common(found, spread(slices, best))
    return tuple(found)


class BesideTest(unittest.TestCase):
    def test_142_beside_exactly_if_nothing_fails(self):
        seen = {True: 0, False: 0}
        for facts, rank, some in CASES:
            found = breaks(facts, rank, some) or breaks(facts, rank, others(facts, some))
            back = list(reversed(some))
            self.assertEqual(beside_break(facts, rank, back), min(found) if found else None)
            self.assertIs(beside(facts, rank, back), not found)
            seen[not found] += 1
        self.assertGreater(min(seen.values()), 100)

    def test_142_no_facts_and_all(self):
        for facts, rank in RANKS:
            self.assertIs(beside(facts, rank, ()), True)
            self.assertIs(beside(facts, rank, tuple(range(facts.many))), True)

    def test_142_beside_exactly_if_best_is_a_common_part(self):
        for facts, rank, some in CASES[::1 if len(CASES) < 700 else 2]:
            lots = list(told_lots(facts, some))
            rest = list(told_lots(facts, others(facts, some)))
            right = all(rank.best(common(lot, other)) == common_best(facts, rank, some, lot, other)
                        for lot in lots for other in rest)
            self.assertIs(right, beside(facts, rank, some))

    def test_143_the_rule_fails_at_the_break(self):
        parts = 0
        for facts, rank, some in CASES:
            found = beside_break(facts, rank, some)
            if found is None:
                continue
            within = found in breaks(facts, rank, some)
            parts += not within
            chosen = some if within else others(facts, some)
            rest = others(facts, chosen)
            x, y, u, _ = found
            shadow = facts.shadow((x, y), rest)
            failing = [lot for lot in [facts.shadow((x,), chosen), facts.shadow((u,), chosen)]
                       if rank.best(common(lot, shadow)) != common_best(facts, rank, chosen, lot, shadow)]
            self.assertTrue(failing)
        self.assertGreater(parts, 5)

    def test_143_examples(self):
        self.assertEqual(beside_break(TWO, Rank.strict((0, 1, 3, 2)), (0,)), (0, 1, 2, 3))
        self.assertEqual(beside_break(TWO, Rank.strict((0, 1, 3, 2)), (1,)), (0, 1, 2, 3))
        self.assertEqual(beside_break(TWO, Rank.strict((0, 3, 2, 1)), (0,)), (0, 1, 2, 3))
        self.assertEqual(beside_break(TWO, Rank([(0, 2), (1,), (3,)]), (0,)), (0, 2, 1, 3))
        self.assertIsNone(beside_break(TWO, Rank.strict((0, 1, 2, 3)), (0,)))

    def test_142_narrowed_to(self):
        for facts, rank, some in CASES:
            slices = facts.alike_classes(some)
            wanted = Rank.of_levels([min(rank.levels[x] for x in part) for part in slices])
            self.assertEqual(narrowed_to(facts, rank, list(reversed(some))), wanted)


class TwoStoresTest(unittest.TestCase):
    def rows(self, facts, some, many, seed):
        chance = random.Random(seed)
        told = list(told_lots(facts, some)) + list(told_lots(facts, others(facts, some)))
        return [[chance.choice(told) for _ in range(chance.randint(0, 5))] for _ in range(many)]

    def test_144_two_stores_hold_what_the_rank_holds(self):
        some_unlike = 0
        for facts, rank, some in CASES:
            for news in self.rows(facts, some, 4, 144):
                found = two_stores(facts, rank, list(reversed(some)), [list(reversed(piece)) for piece in news])
                self.assertEqual(found, self.plain_stores(facts, rank, some, news))
                if beside(facts, rank, some):
                    self.assertEqual(found, led_row(rank, news).held)
                some_unlike += found != led_row(rank, news).held
        self.assertGreater(some_unlike, 20)

    def plain_stores(self, facts, rank, some, news):
        held = set(range(facts.worlds))
        for chosen in (some, others(facts, some)):
            slices = facts.alike_classes(chosen)
            store = Narrowing(slices, facts.worlds)(rank)
            for piece in news:
                if facts.told_by(piece, chosen):
                    store = led_row(store, [met(slices, piece)])
            held = held & set(spread(slices, store.held))
        return tuple(sorted(held))

    def test_144_not_so_for_pushes_and_leans(self):
        rank, news = Rank([(0,), (1, 2), (3,)]), [(2, 3), (1, 3)]
        self.assertEqual([beside(TWO, rank, (0,)), two_stores(TWO, rank, (0,), news)], [True, (3,)])
        self.assertEqual([led_row(rank, news).held, pushed_row(rank, news).held], [(3,), (1,)])
        unlike = [row for row in CASES if beside(*row)
                  for news in self.rows(row[0], row[2], 3, 145) if two_stores(*row, news) != leaned_row(row[1], news).held]
        self.assertTrue(unlike)

    def test_144_all_worlds_as_news(self):
        rank = Rank([(0,), (1, 2), (3,)])
        self.assertEqual(two_stores(TWO, rank, (0,), [(0, 1, 2, 3)]), (0,))
        self.assertEqual([two_stores(TWO, rank, (), [(3, 2, 1, 0), (1,)]), two_stores(TWO, rank, (0,), [])], [(1,), (0,)])

    def test_144_twenty_news_and_one_more(self):
        rank = Rank.strict((0, 1, 2, 3))
        news = [(2, 3), (1, 3)] * 10
        self.assertEqual(two_stores(TWO, rank, (0,), news), (3,))
        refused(self, TooMany(20), two_stores, TWO, rank, (0,), news + [(0, 1)])
        refused(self, OtherWorlds(3), two_stores, TWO, Rank.flat(3), (0,), news + [(0, 1)])
        refused(self, BadNews(20), two_stores, TWO, Rank.flat(3), (0,), news + [(0,)])

    def test_144_wrong_news(self):
        for news in NO_ROWS:
            refused(self, BadNews(-1), two_stores, TWO, Rank.flat(3), (0,), news)
        for news, place in (([()], 0), ([(0, 1), (4,)], 1), ([(0,)], 0), ([(0, 1), (0, 2), (0, 3)], 2), ([(0, 0)], 0),
                            ([(0, 1), 3], 1), ([(True,)], 0), ([None, ()], 0)):
            refused(self, BadNews(place), two_stores, TWO, Rank.flat(3), (0,), news)
            refused(self, BadFacts(0), two_stores, TWO, FLAT, (3,), news)
            refused(self, BadFacts(-1), two_stores, BARRED, FLAT, (3,), news)


class RunAboutTest(unittest.TestCase):
    def deeds(self, facts, some, chance):
        told = list(told_lots(facts, some))
        found = []
        for _ in range(chance.randint(0, 5)):
            word = chance.choice(("lead", "push", "lean", "level", "sink", "ask"))
            able = [()] + told[:-1] if word in ("level", "sink") else told
            found.append((word, chance.choice(able)))
        return found

    def test_145_the_rank_behind_the_row_narrowed(self):
        chance = random.Random(145)
        for facts, rank, some in CASES:
            slices = facts.alike_classes(some)
            for _ in range(3):
                deeds = self.deeds(facts, some, chance)
                told = [[word, list(reversed(lot))] for word, lot in deeds]
                after, store = rank, narrowed_to(facts, rank, some)
                for word, lot in deeds:
                    self.assertEqual(met(slices, answer_of(after, word, lot)), answer_of(store, word, met(slices, lot)))
                    after = turned(after, word, lot)
                    store = turned(store, word, met(slices, lot))
                found = run_about(facts, rank, list(reversed(some)), told)
                self.assertEqual(found, store)
                self.assertEqual(found, narrowed_to(facts, after, some))

    def test_145_answers_that_can_come(self):
        chance = random.Random(146)
        for facts, rank, some in CASES[::11]:
            if facts.worlds > 6:
                continue
            slices = facts.alike_classes(some)
            journal = journal_of(rank, self.deeds(facts, some, chance))
            narrow = narrowed_journal(journal, slices)
            for word, lot in self.deeds(facts, some, chance):
                able = can_come(narrow, word, met(slices, lot))
                for answer in can_come(journal, word, lot):
                    self.assertIn(met(slices, answer), able)

    def test_145_sixty_deeds_and_one_more(self):
        rank = Rank.strict((0, 1, 2, 3))
        deeds = [("lead", (2, 3)), ("push", (0, 1)), ("level", (0, 1))] * 20
        self.assertEqual(run_about(TWO, rank, (0,), deeds), Rank.flat(2))
        refused(self, TooMany(60), run_about, TWO, rank, (0,), deeds + [("ask", (0, 1))])
        refused(self, OtherWorlds(5), run_about, TWO, Rank.flat(5), (0,), deeds + [("ask", (0, 1))])
        refused(self, BadDeed(60), run_about, TWO, Rank.flat(5), (0,), deeds + [("ask", (0,))])
        self.assertEqual(run_about(TWO, rank, (0,), ()), Rank.strict((0, 1)))

    def test_145_wrong_deeds(self):
        whole = (0, 1, 2, 3)
        for deeds in NO_ROWS:
            refused(self, BadDeed(-1), run_about, TWO, Rank.flat(3), (0,), deeds)
        wrong = [(("lead", ()),), (("push", ()),), (("lean", ()),), (("ask", ()),), (("level", whole),), (("sink", whole),),
                 (("lead", (0,)),), (("level", (0, 2)),), (("lead", (0, 4)),), (("lead", (0, 0)),), (("lead", None),),
                 (("back", ()),), ("lead",), ((),), (("lead",),), (("lead", (0, 1), (0,)),), (None,)]
        wrong = wrong + [((word, (0, 1)),) for word in NO_WORDS]
        for deeds in wrong:
            refused(self, BadDeed(0), run_about, TWO, Rank.flat(3), (0,), deeds)
            refused(self, BadDeed(1), run_about, TWO, FLAT, (0,), (("sink", ()),) + deeds)
            refused(self, BadFacts(1), run_about, TWO, FLAT, (0, 0), deeds)
            refused(self, BadFacts(-1), run_about, BARRED, FLAT, (0, 0), deeds)

    def test_142_errors_of_the_others(self):
        for call in (narrowed_to, beside, beside_break):
            refused(self, BadFacts(-1), call, BARRED, Rank.flat(2), (7,))
            for some in NO_ROWS:
                refused(self, BadFacts(-1), call, TWO, Rank.flat(2), some)
            for some, place in (((2,), 0), ((1, 1), 1), ((0, False), 1)):
                refused(self, BadFacts(place), call, TWO, Rank.flat(2), some)
            for worlds in (1, 3, 5, 12):
                refused(self, OtherWorlds(worlds), call, TWO, Rank.flat(worlds), (0,))


if __name__ == "__main__":
    unittest.main()
