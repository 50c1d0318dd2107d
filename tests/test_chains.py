"""Points 18 to 22: comparisons, chains, rings, the least rank and what all keeping ranks have."""

import itertools
import unittest

from helpers import (
    NO_INTEGERS, NO_ROWS, all_comparisons, holds, keeping, level_rows, ranks_of, refused, some_lists)
from newsbooks.chains import Chains, is_ring, ring_of
from newsbooks.comparisons import comparisons_of, first_broken, keeps
from newsbooks.errors import BadComparison, BadNumber, TooMany
from newsbooks.keeping import before_in_all, least_rank, same_keeping
from newsbooks.firsts import count_keeping
from newsbooks.ranks import Rank

SHORT = [list(row) for size in range(3) for row in itertools.product(all_comparisons(2), repeat=size)]
LISTS = [(2, told) for told in SHORT] + [(3, told) for told in some_lists(3, 5, 250, 18)]
LISTS = LISTS + [(4, told) for told in some_lists(4, 9, 120, 19)]


def chains_from(told, one, most):
    """All chains from the world with at most so many places, the short ones first, with their ends."""
    found = [((), one)]
    row = found
    for _ in range(most):
        row = [(chain + (place,), told[place][2]) for chain, end in row
               for place in range(len(told)) if told[place][0] == end]
        found = found + row
    return found


def is_strict(told, chain):
    return any(told[place][1] == "<" for place in chain)


def reach_of(worlds, told):
    """All pairs that chains join, and all that strict chains do, by going on until nothing is new."""
    chains = {(x, x) for x in range(worlds)} | {(x, y) for x, _, y in told}
    while True:
        more = {(x, z) for x, y in chains for w, z in chains if w == y} - chains
        if not more:
            break
        chains = chains | more
    strict = {(x, y) for a, sign, b in told if sign == "<" for x, end in chains if end == a
              for start, y in chains if start == b}
    return chains, strict


def rings_of(told):
    """All rings of the list."""
    found = []
    for size in range(1, 5):
        for row in itertools.permutations(range(len(told)), size):
            steps = [told[place] for place in row]
            lefts = [step[0] for step in steps]
            joined = all(steps[k][2] == lefts[(k + 1) % size] for k in range(size))
            if joined and len(set(lefts)) == size and any(step[1] == "<" for step in steps):
                found.append(row)
    return found


class ComparisonsTest(unittest.TestCase):
    def refusing_calls(self):
        yield lambda told, worlds: comparisons_of(told, worlds)
        yield lambda told, worlds: Chains(worlds, told)
        yield lambda told, worlds: ring_of(worlds, told)
        yield lambda told, worlds: is_ring(worlds, told, "no ring")
        yield lambda told, worlds: least_rank(worlds, told)
        yield lambda told, worlds: before_in_all(worlds, told, "no world", None)
        yield lambda told, worlds: same_keeping(worlds, told, "no list")
        yield lambda told, worlds: same_keeping(worlds, [(0, "<", 0)], told)
        yield lambda told, worlds: count_keeping(worlds, told)

    def test_18_refused_lists(self):
        for call in self.refusing_calls():
            for worlds in (0, 13) + NO_INTEGERS:
                refused(self, BadNumber("worlds"), call, "no list", worlds)
            self.check_refused(lambda told: call(told, 3))
        self.check_refused(lambda told: first_broken(Rank.flat(3), told))
        self.check_refused(lambda told: keeps(Rank.flat(3), told))

    def check_refused(self, call):
        for told in NO_ROWS:
            refused(self, BadComparison(-1), call, told)
        for entry in NO_ROWS + ((), (0, "<"), (0, "<", 1, 1), (3, "<", 0), (0, "<", 3), (-1, "<=", 0), (0, "=", 1),
                                (0, ">", 1), (0, None, 1), (0, ["<"], 1), (True, "<", 0), (0, "<", False),
                                ("0", "<", 1), (0, "", 1), ((0,), "<", 1), (0, b"<", 1), "0<1"):
            refused(self, BadComparison(1), call, [(0, "<=", 1), entry, (9, "<", 9)])
        refused(self, TooMany(2000), call, [(0, "<=", 1)] * 2001)
        refused(self, BadComparison(2000), call, [(0, "<=", 1)] * 2000 + [(0, "<=", 3)])

    def test_18_longest_list(self):
        told = [(x % 12, "<=", (x + 1) % 12) for x in range(1999)] + [(11, "<", 11)]
        self.assertEqual(comparisons_of(told, 12), tuple(told))
        self.assertEqual(ring_of(12, told), (1999,))
        self.assertEqual(len(Chains(12, told).chain(0, 11)), 11)
        self.assertIsNone(least_rank(12, told))
        self.assertEqual(least_rank(12, told[:-1] + [[3, "<=", 3]]), Rank.flat(12))
        self.assertEqual(count_keeping(12, told[:-1]), 1)

    def test_18_list_as_tuples(self):
        self.assertEqual(comparisons_of([[0, "<", 1], (1, "<=", 1)], 2), ((0, "<", 1), (1, "<=", 1)))
        self.assertEqual(comparisons_of((), 1), ())

    def test_18_first_broken(self):
        for worlds, told in LISTS[::3]:
            for rank in ranks_of(worlds):
                broken = [place for place, entry in enumerate(told) if not holds(rank.levels, entry)]
                self.assertEqual(first_broken(rank, told), broken[0] if broken else None)
                self.assertIs(keeps(rank, tuple(told)), not broken)
        self.assertEqual(first_broken(Rank.flat(2), [(0, "<=", 1), (0, "<=", 0), (1, "<", 0), (0, "<", 0)]), 2)


class ChainsTest(unittest.TestCase):
    def test_19_chains_and_strict_chains(self):
        for worlds, told in LISTS:
            chains = Chains(worlds, told)
            reach, strict = reach_of(worlds, told)
            self.assertEqual([chains.worlds, chains.comparisons], [worlds, tuple(told)])
            for x, y in itertools.product(range(worlds), repeat=2):
                self.assertIs(chains.reaches(x, y), (x, y) in reach)
                self.assertIs(chains.strictly(x, y), (x, y) in strict)
                self.check_chain(told, chains.chain(x, y), x, y, (x, y) in reach, False)
                self.check_chain(told, chains.strict_chain(x, y), x, y, (x, y) in strict, True)

    def check_chain(self, told, chain, x, y, wanted, strict):
        if not wanted:
            self.assertIsNone(chain)
            return
        self.assertIsInstance(chain, tuple)
        at = x
        for place in chain:
            self.assertEqual(told[place][0], at)
            at = told[place][2]
        self.assertEqual(at, y)
        if strict:
            self.assertTrue(is_strict(told, chain))

    def test_19_fewest_places(self):
        for worlds, told in [row for row in LISTS if len(row[1]) <= 4 and row[0] < 4]:
            chains = Chains(worlds, told)
            for x in range(worlds):
                rows = chains_from(told, x, 2 * worlds)
                for y in range(worlds):
                    sizes = [len(chain) for chain, end in rows if end == y]
                    self.assertEqual(len(chains.chain(x, y) or ()), min(sizes, default=0))
                    sizes = [len(chain) for chain, end in rows if end == y and is_strict(told, chain)]
                    self.assertEqual(len(chains.strict_chain(x, y) or ()), min(sizes, default=0))
        told = [(0, "<=", 1), (1, "<=", 2), (1, "<", 3), (3, "<=", 1)]
        self.assertEqual(Chains(4, told).strict_chain(0, 2), (0, 2, 3, 1))
        self.assertEqual([Chains(1, []).chain(0, 0), Chains(1, []).strict_chain(0, 0)], [(), None])

    def test_19_refused_worlds(self):
        chains = Chains(2, [])
        for call in (chains.reaches, chains.strictly, chains.chain, chains.strict_chain):
            for world in NO_INTEGERS + (-1, 2):
                refused(self, BadNumber("one"), call, world, 7)
                refused(self, BadNumber("other"), call, 1, world)

    def test_20_rings(self):
        for worlds, told in LISTS:
            kept = keeping(worlds, told) != []
            ring = ring_of(worlds, told)
            self.assertIs(Chains(worlds, told).torn, not kept)
            self.assertEqual(ring is None, kept)
            if len(told) <= 6:
                rings = rings_of(told)
                self.assertEqual(rings == [], kept)
                if rings:
                    self.assertIn(ring, rings)
                    self.assertEqual(len(ring), min(map(len, rings)))
            elif ring is not None:
                self.assertTrue(is_ring(worlds, told, ring))
                self.assertLessEqual(len(ring), worlds)

    def test_20_a_ring_of_all_worlds(self):
        told = [(x, "<=", (x + 1) % 12) for x in range(11)] + [(11, "<", 0)]
        ring = ring_of(12, told)
        self.assertEqual(sorted(ring), list(range(12)))
        self.assertTrue(is_ring(12, told, ring))
        self.assertEqual(ring_of(1, [(0, "<=", 0), (0, "<", 0)]), (1,))

    def test_20_what_is_a_ring(self):
        for worlds, told in [row for row in LISTS if len(row[1]) <= 4]:
            rings = rings_of(told)
            for size in range(4):
                for row in itertools.product(range(len(told)), repeat=size):
                    self.assertIs(is_ring(worlds, told, row), row in rings)
                    self.assertIs(is_ring(worlds, told, list(row)), row in rings)
        told = [(0, "<", 0), (0, "<", 1), (1, "<=", 0)]
        for row in NO_ROWS + ((), [], (True,), (False,), (-3,), (3,), ("0",), (0, 0), (0, 1, 2), ((0,),), [None], (1,),
                              (1, 3), (2, -2), [2, True], (0, None), (1, "2"), (2, 1, 3)):
            self.assertIs(is_ring(2, told, row), False, row)
        self.assertIs(is_ring(2, told, (2, 1)), True)

    def test_26_alike_lots(self):
        for worlds, told in LISTS:
            reach, _ = reach_of(worlds, told)
            lots = {tuple(y for y in range(worlds) if (x, y) in reach and (y, x) in reach) for x in range(worlds)}
            self.assertEqual(Chains(worlds, told).alike_lots(), tuple(sorted(lots)))


class LeastRankTest(unittest.TestCase):
    def test_21_least_rank(self):
        for worlds, told in LISTS:
            kept = keeping(worlds, told)
            least = least_rank(worlds, told)
            if not kept:
                self.assertIsNone(least)
                continue
            self.assertIsInstance(least, Rank)
            self.assertIn(least.levels, kept)
            self.assertEqual(least.levels, tuple(min(levels[x] for levels in kept) for x in range(worlds)))
            if len(told) <= 5:
                for x in range(worlds):
                    ends = [chain for start in range(worlds) for chain, end in chains_from(told, start, 5) if end == x]
                    most = max(sum(told[place][1] == "<" for place in chain) for chain in ends)
                    self.assertLessEqual(most, least.levels[x])
        strict = [(x, "<", x + 1) for x in range(11)]
        self.assertEqual(least_rank(12, strict), Rank.strict(tuple(range(12))))
        self.assertEqual(least_rank(12, list(reversed(strict))).levels, tuple(range(12)))
        self.assertEqual(least_rank(5, []), Rank.flat(5))

    def test_22_what_is_so_in_all(self):
        for worlds, told in LISTS:
            kept = keeping(worlds, told)
            chains = Chains(worlds, told)
            for x, y in itertools.product(range(worlds), repeat=2):
                found = before_in_all(worlds, told, x, y)
                if not kept:
                    self.assertIsNone(found)
                    continue
                before = all(levels[x] < levels[y] for levels in kept)
                alike = all(levels[x] == levels[y] for levels in kept)
                not_behind = all(levels[x] <= levels[y] for levels in kept)
                wanted = "before" if before else "alike" if alike else "not behind" if not_behind else "open"
                self.assertEqual(found, wanted)
                self.assertEqual(before, chains.strictly(x, y))
                self.assertEqual(not_behind, chains.reaches(x, y))
                self.assertEqual(keeping(worlds, told + [(y, "<=", x)]) != [], not chains.strictly(x, y))
                if x != y:
                    self.assertEqual(keeping(worlds, told + [(y, "<", x)]) != [], not chains.reaches(x, y))

    def test_22_refused_worlds(self):
        for told in ([], [(0, "<", 0)]):
            for world in NO_INTEGERS + (-1, 2):
                refused(self, BadNumber("one"), before_in_all, 2, told, world, 7)
                refused(self, BadNumber("other"), before_in_all, 2, told, 1, world)
        self.assertEqual(before_in_all(1, [], 0, 0), "alike")

    def test_28_products_of_keeping_ranks_keep(self):
        for worlds, told in LISTS[::7]:
            kept = [Rank.of_levels(levels) for levels in keeping(worlds, told)]
            for p, r in itertools.product(kept[:12], kept):
                self.assertIs(keeps(p * r, told), True)

    def test_18_keeping_of_all_ranks(self):
        for levels in level_rows(3):
            for entry in all_comparisons(3):
                self.assertIs(keeps(Rank.of_levels(levels), [entry]), holds(levels, entry))


if __name__ == "__main__":
    unittest.main()
