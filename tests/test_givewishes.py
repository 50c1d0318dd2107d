"""Points 76 and 78 to 81: wishes of give-up tables, bridges to tables, and the ranks behind them."""

import itertools
import random
import unittest

from helpers import NO_INTEGERS, NO_ROWS, books_of, lots_of, ranks_of, refused, sublots
from newsbooks.bridges import give_from, put_from
from newsbooks.errors import BadLot, BadNumber, BadWord, OtherWorlds
from newsbooks.givewishes import GIVE_WISHES, give_break, half_arrow, has_give, keeps_tied
from newsbooks.givings import Giving
from newsbooks.lots import common, inside, lot_key, meets, plus, rest_of
from newsbooks.ranks import Rank
from newsbooks.relations import rank_behind
from newsbooks.sinks import count_between, is_between, kept_chain, rank_of_levels, rank_of_sinks
from newsbooks.tables import Table, all_tables
from newsbooks.wishes import has_wish

NO_WISHES = ("", "Hold", "hold ", "arrow", "heritage", None, 3, ["hold"], ("hold",), {})


def all_givings(worlds):
    """All give-up tables of these worlds, for one or two."""
    lots = lots_of(worlds)[:-1]
    rows = itertools.product(lots_of(worlds), repeat=len(lots))
    return [Giving(worlds, list(zip(lots, row))) for row in rows]


def changed(giving, chance):
    """The table with another answer at one lot."""
    place = chance.randrange(len(giving))
    pairs = [list(pair) for pair in giving.pairs]
    pairs[place][1] = chance.choice(lots_of(giving.worlds))
    return Giving(giving.worlds, pairs)


def some_givings(worlds, many):
    """Give-up tables: of ranks, from tables, by chance, and each of these changed at one lot."""
    chance = random.Random(76)
    ranks = ranks_of(worlds)
    lots = lots_of(worlds)
    found = []
    for _ in range(many):
        rank = chance.choice(ranks)
        table = Table(worlds, [(lot, chance.choice(sublots(lot)[1:])) for lot in lots[1:]])
        tied = tie(table)
        free = Giving(worlds, [(lot, chance.choice(lots)) for lot in lots[:-1]])
        for giving in (Giving.level_of(rank), Giving.sink_of(rank), give_from(table), give_from(tied), free):
            found = found + [giving, changed(giving, chance)]
    return found


def tie(table):
    """The tied table with the held lot of this one, which agrees with it elsewhere."""
    pairs = [(lot, common(table.held, lot) or answer) for lot, answer in table.pairs]
    return Table(table.worlds, pairs)


def tied_tables(worlds):
    """All tied tables of up to three worlds; of four, those that hold the last world alone."""
    if worlds < 4:
        return [table for table in all_tables(worlds) if tie(table) == table]
    ends = [(lot, (3,)) for lot in books_of(4) if 3 in lot]
    return [Table(4, list(table.pairs) + ends) for table in all_tables(3)]


def so(giving, wish, one, other):
    """Whether the wish is so for these two lots."""
    held = set(giving.held)
    first, second = set(giving.kept(one)), set(giving.kept(other))
    both = set(giving.kept(common(one, other)))
    return {
        "hold": held <= first,
        "stand": held <= set(one) or first == held,
        "yield": not first <= set(one),
        "regain": first & set(one) <= held,
        "part": both <= first | second,
        "take": both <= set(one) or first <= both,
        "rise": not set(one) <= set(other) or first <= second,
    }[wish]


def first_pair(giving, wish):
    for one, _ in giving.pairs:
        for other, _ in giving.pairs:
            if not so(giving, wish, one, other):
                return (one, one) if wish in ("hold", "stand", "yield", "regain") else (one, other)
    return None


GIVINGS = all_givings(1) + all_givings(2) + some_givings(3, 40) + some_givings(4, 8)


def with_wishes(giving, *wishes):
    return all(first_pair(giving, wish) is None for wish in wishes)


class WishesTest(unittest.TestCase):
    def test_76_wishes(self):
        self.assertEqual(GIVE_WISHES, ("hold", "stand", "yield", "regain", "part", "take", "rise"))
        seen = set()
        for giving in GIVINGS:
            for wish in GIVE_WISHES:
                wanted = first_pair(giving, wish)
                self.assertEqual(give_break(giving, wish), wanted)
                self.assertIs(has_give(giving, wish), wanted is None)
                seen.add((giving.worlds, wish, wanted is None))
        self.assertEqual(len([entry for entry in seen if entry[0] > 1]), 3 * 7 * 2)

    def test_76_six_worlds(self):
        giving = Giving.level_of(Rank.strict(tuple(range(6))))
        wanted = [None] * 6 + [((0,), (0, 1))]
        self.assertEqual([give_break(giving, wish) for wish in GIVE_WISHES], wanted)

    def test_76_refused_wishes(self):
        for wish in NO_WISHES:
            refused(self, BadWord(wish), give_break, GIVINGS[0], wish)
            refused(self, BadWord(wish), has_give, GIVINGS[0], wish)


class BridgesTest(unittest.TestCase):
    def test_78_bridges(self):
        empty = 0
        for giving in GIVINGS:
            worlds = giving.worlds
            pairs = [(lot, common(giving.kept(rest_of(lot, worlds)), lot)) for lot in books_of(worlds)]
            table = put_from(giving)
            if not all(answer for _, answer in pairs):
                empty += 1
                self.assertIsNone(table)
                continue
            self.assertEqual([table.pairs, table.worlds], [tuple(pairs), worlds])
        self.assertGreater(empty, 10)
        for worlds in (1, 2, 3):
            for table in all_tables(worlds):
                giving = give_from(table)
                for lot in lots_of(worlds)[:-1]:
                    self.assertEqual(giving.kept(lot), plus(table.held, table.answer(rest_of(lot, worlds))))

    def test_78_tied_tables(self):
        for worlds in (1, 2, 3):
            tables = list(all_tables(worlds))
            for table in tables:
                wanted = all(table.answer(lot) == common(table.held, lot) for lot in books_of(worlds)
                             if meets(lot, table.held))
                self.assertIs(keeps_tied(table), wanted)
        counts = [len(tied_tables(worlds)) for worlds in (1, 2, 3)]
        self.assertEqual(counts, [len([t for t in all_tables(n) if keeps_tied(t)]) for n in (1, 2, 3)])

    def test_78_there_and_back(self):
        right = 0
        for giving in GIVINGS:
            if with_wishes(giving, "hold", "stand", "yield", "regain"):
                right += 1
                table = put_from(giving)
                self.assertTrue(keeps_tied(table))
                self.assertEqual([table.held, give_from(table)], [giving.held, giving])
        self.assertGreater(right, 50)
        for worlds in (1, 2, 3):
            for table in tied_tables(worlds):
                giving = give_from(table)
                self.assertTrue(with_wishes(giving, "hold", "stand", "yield", "regain"))
                self.assertEqual([giving.held, put_from(giving)], [table.held, table])

    def test_79_half_arrow(self):
        for worlds in (1, 2, 3):
            for table in all_tables(worlds):
                pairs = itertools.product(books_of(worlds), repeat=2)
                wrong = [(lot, whole) for lot, whole in pairs if inside(lot, whole)
                         and meets(table.answer(whole), lot) and not inside(table.answer(lot), table.answer(whole))]
                self.assertEqual(half_arrow(table), wrong[0] if wrong else None)

    def test_79_wish_by_wish(self):
        seen = set()
        for worlds in (1, 2, 3, 4):
            levels = {Giving.level_of(rank).pairs: rank for rank in ranks_of(worlds)}
            self.assertEqual(len(levels), len(ranks_of(worlds)))
            for table in tied_tables(worlds):
                giving = give_from(table)
                part, take = has_give(giving, "part"), has_give(giving, "take")
                self.assertEqual([part, take], [has_wish(table, "heritage"), half_arrow(table) is None])
                rank = levels.get(giving.pairs)
                self.assertEqual([part and take, rank is not None], [has_wish(table, "arrow")] * 2)
                self.assertEqual([rank_of_levels(giving), rank_behind(table)], [rank, rank])
                seen.add((part, take))
        self.assertEqual(len(seen), 4)

    def test_79_ranks_of_level_tables(self):
        for worlds in (1, 2, 3, 4):
            for rank in ranks_of(worlds):
                self.assertEqual(rank_of_levels(Giving.level_of(rank)), rank)
        for giving in GIVINGS:
            found = rank_of_levels(giving)
            wanted = [rank for rank in ranks_of(giving.worlds) if Giving.level_of(rank) == giving]
            self.assertEqual(found, wanted[0] if wanted else None)
        for rank in (Rank.flat(6), Rank.strict((3, 5, 1, 0, 4, 2))):
            self.assertEqual(rank_of_levels(Giving.level_of(rank)), rank)


class SinksTest(unittest.TestCase):
    def test_80_ranks_of_sink_tables(self):
        for worlds in (1, 2, 3, 4):
            for rank in ranks_of(worlds):
                giving = Giving.sink_of(rank)
                self.assertEqual(rank_of_sinks(giving), rank)
                self.assertEqual(kept_chain(giving), rank.beginnings())
                for x, y in itertools.product(range(worlds), repeat=2):
                    less = inside(giving.kept(rest_of((x,), worlds)), giving.kept(rest_of((y,), worlds)))
                    self.assertEqual(less, rank.levels[x] <= rank.levels[y])
        for rank in (Rank.flat(6), Rank.strict((3, 5, 1, 0, 4, 2))):
            self.assertEqual(rank_of_sinks(Giving.sink_of(rank)), rank)

    def test_80_exactly_the_tables_with_three_wishes(self):
        seen = set()
        for giving in GIVINGS:
            right = with_wishes(giving, "yield", "rise", "take")
            rank = rank_of_sinks(giving)
            self.assertEqual(rank is not None, right)
            self.assertTrue(rank is None or Giving.sink_of(rank) == giving)
            wanted = sorted({answer for _, answer in giving.pairs}, key=lot_key)
            self.assertEqual(kept_chain(giving), tuple(wanted))
            seen.add((giving.worlds, right))
        self.assertEqual(seen, {(n, right) for n in (1, 2, 3, 4) for right in (True, False)})


class BetweenTest(unittest.TestCase):
    def lies_over(self, giving, table):
        return with_wishes(giving, "hold", "stand") and put_from(giving) == table

    def test_81_lying_over_a_table(self):
        for worlds in (1, 2):
            givings = all_givings(worlds)
            for table in all_tables(worlds):
                over = [giving for giving in givings if self.lies_over(giving, table)]
                self.assertEqual([giving for giving in givings if is_between(giving, table)], over)
                if keeps_tied(table):
                    self.check_between(table, over)

    def check_between(self, table, over):
        worlds = table.worlds
        least = give_from(table)
        self.assertEqual([giving for giving in over if with_wishes(giving, "regain")], [least])
        self.assertEqual(len(over), count_between(worlds, table.held))
        for giving in over:
            for lot, answer in giving.pairs:
                self.assertTrue(inside(least.kept(lot), answer))
                free = set(lot) - set(table.held) if inside(table.held, lot) else set()
                self.assertTrue(set(answer) - set(least.kept(lot)) <= free)
        rank = rank_behind(table)
        if rank is None:
            return
        sinks = Giving.sink_of(rank)
        self.assertIn(sinks.pairs, [giving.pairs for giving in over])
        for giving in over:
            if not any(set(answer) & set(rank.behind_best(rest_of(lot, worlds))) for lot, answer in giving.pairs):
                self.assertTrue(all(inside(answer, sinks.kept(lot)) for lot, answer in giving.pairs))

    def tables_over(self, table):
        """All give-up tables that lie over a tied table, by the words of the document."""
        least = give_from(table)
        choices = []
        for lot, answer in least.pairs:
            free = tuple(sorted(set(lot) - set(table.held))) if inside(table.held, lot) else ()
            choices.append([(lot, plus(answer, part)) for part in sublots(free)])
        return [Giving(table.worlds, row) for row in itertools.product(*choices)]

    def test_81_three_worlds(self):
        for table in tied_tables(3):
            over = self.tables_over(table)
            self.assertTrue(all(is_between(giving, table) for giving in over))
            self.check_between(table, over)

    def test_81_tables_that_do_not_lie_over(self):
        chance = random.Random(81)
        seen = set()
        for table in tied_tables(3)[::5] + list(all_tables(3))[::7]:
            for giving in [give_from(table)] + self.tables_over(tie(table))[:4]:
                for other in (giving, changed(giving, chance), changed(giving, chance)):
                    self.assertIs(is_between(other, table), self.lies_over(other, table))
                    seen.add(self.lies_over(other, table))
        for rank in ranks_of(3):
            table = Table.of_rank(rank)
            self.assertTrue(is_between(Giving.sink_of(rank), table) and is_between(Giving.level_of(rank), table))
        self.assertEqual(seen, {True, False})

    def test_81_counts(self):
        for worlds in range(1, 7):
            for held in books_of(worlds):
                many = 0
                for lot in lots_of(worlds)[:-1]:
                    many += len(set(lot) - set(held)) if set(held) <= set(lot) else 0
                self.assertEqual(count_between(worlds, list(reversed(held))), 2 ** many)
        self.assertEqual(count_between(6, (3,)), 2 ** 75)
        self.assertEqual(count_between(6, (0, 1, 2, 3, 4, 5)), 1)

    def test_81_refused_arguments(self):
        for worlds in NO_INTEGERS + (0, 7, 12):
            refused(self, BadNumber("worlds"), count_between, worlds, "no lot")
        for lot in NO_ROWS + ((), []):
            refused(self, BadLot(-1), count_between, 3, lot)
        for entry in NO_INTEGERS + (3, -1, 2):
            refused(self, BadLot(1), count_between, 3, [2, entry, 0])
        giving = Giving.level_of(Rank.flat(2))
        for worlds in (1, 3):
            refused(self, OtherWorlds(worlds), is_between, giving, Table.of_rank(Rank.flat(worlds)))


if __name__ == "__main__":
    unittest.main()
