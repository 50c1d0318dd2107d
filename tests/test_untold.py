"""Points 63, 64, 66 and 67: what told cases tell about ranks and about lots that are not told."""

import itertools
import unittest

from helpers import NO_INTEGERS, NO_ROWS, all_cases, best_of, books_of, cells_of, giving, refused, sublots
from newsbooks.cases import Told, told_of
from newsbooks.chains import Chains
from newsbooks.errors import BadLot, TooMany
from newsbooks.ranks import Rank
from newsbooks.tables import all_tables
from newsbooks.untold import (
    arrow_break, can_answer, count_told, forced, is_told_ring, pairs_told, rank_told, told_all, told_ring,
    told_some, union_told)
from newsbooks.wishes import has_wish
from test_cases import ROWS

FEW = ROWS[:160] + ROWS[160::3]


def closes(steps):
    """Whether these comparisons are a ring, by the words of the document."""
    if not steps or not any(sign == "<" for _, sign, _ in steps):
        return False
    ends = [right for _, _, right in steps]
    begins = [left for left, _, _ in steps]
    return ends[-1:] + ends[:-1] == begins and len(set(begins)) == len(begins)


def breaking(row):
    for i, (lot, answer) in enumerate(row):
        for j, (whole, first) in enumerate(row):
            both = set(first) & set(lot)
            if set(lot) <= set(whole) and both and set(answer) != both:
                return (i, j)
    return None


class RanksTest(unittest.TestCase):
    def test_63_a_rank_gives_the_cases_exactly_if_there_is_no_told_ring(self):
        for worlds, row in ROWS:
            told = Told(worlds, row)
            given = giving(worlds, row)
            least = rank_told(told)
            ring = told_ring(told)
            self.assertEqual([least is None, ring is None], [not given, bool(given)])
            if given:
                self.assertIn(least.levels, given)
                self.assertTrue(all(least.levels[x] <= levels[x] for levels in given for x in range(worlds)))
            else:
                self.check_ring(told, ring)

    def check_ring(self, told, ring):
        steps = list(zip(told.sources, told.comparisons))
        self.assertIsInstance(ring, tuple)
        self.assertTrue(all((number, (x, sign, y)) in steps for number, x, sign, y in ring))
        self.assertTrue(closes([step[1:] for step in ring]))
        self.assertTrue(is_told_ring(told, ring))
        self.assertTrue(is_told_ring(told, [list(step) for step in ring]))
        for turn in range(len(ring)):
            self.assertTrue(is_told_ring(told, ring[turn:] + ring[:turn]))

    def test_63_is_told_ring(self):
        tolds = [Told(2, [((0, 1), (0,)), ((0, 1), (0, 1))]), Told(2, [((0, 1), (0,)), ((1, 0), (1,))]),
                 Told(3, [((0, 1), (0,)), ((1, 2), (1, 2)), ((2, 0), (2,))]), Told(2, [((0, 1), (0,))])]
        for told in tolds:
            steps = list(zip(told.sources, told.comparisons))
            signs = ("<", "<=")
            numbers = range(-1, len(told) + 1)
            free = list(itertools.product(numbers, range(told.worlds), signs, range(told.worlds)))
            for many in (0, 1, 2, 3):
                if len(free) ** many > 20000:
                    free = [step for step in free if (step[0], step[1:]) in steps] + free[:4]
                for ring in itertools.product(free, repeat=many):
                    wanted = all((step[0], step[1:]) in steps for step in ring) and closes([s[1:] for s in ring])
                    self.assertIs(is_told_ring(told, ring), wanted)

    def test_63_what_is_no_told_ring(self):
        told = Told(2, [((0, 1), (0,)), ((0, 1), (1,))])
        right = [(0, 0, "<", 1), (1, 1, "<", 0)]
        self.assertTrue(is_told_ring(told, right))
        for ring in NO_ROWS + ((), [], right[:1], right + right, [right], (right[0], None), right[0]):
            self.assertIs(is_told_ring(told, ring), False)
        for step in NO_ROWS + ((), (1, 1, "<"), (1, 1, "<", 0, 0), (True, 1, "<", 0), (1, True, "<", 0),
                               (1, 1, "<", False), (1, 1, "<", 0.0), (1.0, 1, "<", 0), (1, 1, "<=", 0),
                               (1, 1, None, 0), (1, 1, ["<"], 0), (0, 1, "<", 0), (2, 1, "<", 0), (-1, 1, "<", 0),
                               ("1", 1, "<", 0), (1, "1", "<", 0)):
            self.assertIs(is_told_ring(told, [right[0], step]), False)
        self.assertIs(is_told_ring(Told(2, []), right), False)

    def test_63_twelve_worlds(self):
        strict = Rank.strict(tuple(reversed(range(12))))
        told = Told(12, [((x, x + 1), (x + 1,)) for x in range(11)])
        self.assertEqual([rank_told(told), told_ring(told)], [strict, None])
        self.assertEqual(len(told_ring(told.with_case((0, 11), (0,)))), 12)

    def test_64_arrow_breaks(self):
        for worlds, row in ROWS:
            told = Told(worlds, row)
            self.assertEqual(arrow_break(told), breaking(row))
            if arrow_break(told) is not None:
                self.assertIsNone(rank_told(told))
        for worlds in (1, 2, 3):
            for i, j in itertools.product(all_cases(worlds), repeat=2):
                self.assertEqual(arrow_break(Told(worlds, [i, j])), breaking([i, j]))

    def test_64_union_told_and_pairs_told(self):
        for worlds, row in ROWS:
            told = Told(worlds, row)
            lots = [set(lot) for lot, _ in row]
            self.assertIs(union_told(told), all(one | other in lots for one in lots for other in lots))
            small = [lot for lot in books_of(worlds) if len(lot) in (2, 3)]
            self.assertIs(pairs_told(told), all(set(lot) in lots for lot in small))
        none = Told(1, [])
        self.assertEqual([union_told(none), pairs_told(none), pairs_told(Told(2, []))], [True, True, False])
        fours = [lot for lot in books_of(4) if len(lot) in (2, 3)]
        self.assertTrue(pairs_told(Told(4, [(lot, lot) for lot in fours])))
        self.assertFalse(pairs_told(Told(4, [(lot, lot) for lot in fours[:-1]])))

    def test_64_where_arrow_is_enough(self):
        seen = []
        for worlds, row in ROWS:
            told = Told(worlds, row)
            if union_told(told) or pairs_told(told):
                self.assertEqual(rank_told(told) is not None, arrow_break(told) is None)
                seen.append(rank_told(told) is not None)
        for table in all_tables(3):
            for lots in (books_of(3), books_of(3)[3:]):
                told = told_of(table, lots)
                self.assertTrue(pairs_told(told))
                self.assertEqual(rank_told(told) is not None, arrow_break(told) is None)
            self.assertEqual(arrow_break(told_of(table, books_of(3))) is None, has_wish(table, "arrow"))
        self.assertEqual(set(seen), {True, False})

    def test_64_where_it_is_not_enough(self):
        told = Told(3, [((0, 1), (0,)), ((1, 2), (1,)), ((0, 2), (2,))])
        self.assertEqual([arrow_break(told), rank_told(told)], [None, None])
        self.assertEqual([union_told(told), pairs_told(told)], [False, False])


class AnswersTest(unittest.TestCase):
    def test_66_what_can_be_the_answer(self):
        for worlds, row in FEW:
            told = Told(worlds, row)
            given = giving(worlds, row)
            for lot in books_of(worlds):
                turned = list(reversed(lot))
                found = sorted({best_of(levels, lot) for levels in given}, key=lambda part: (len(part), part))
                self.assertEqual(can_answer(told, turned), tuple(found))
                self.assertEqual(forced(told, turned), found[0] if len(found) == 1 else None)
                some = tuple(x for x in lot if any(x in part for part in found))
                every = tuple(x for x in lot if found and all(x in part for part in found))
                self.assertEqual([told_some(told, turned), told_all(told, turned)], [some, every])

    def test_66_by_chains(self):
        for worlds, row in FEW[::2]:
            told = Told(worlds, row)
            chains = Chains(worlds, told.comparisons)
            if chains.torn:
                continue
            for lot in books_of(worlds):
                answers = can_answer(told, lot)
                for part in sublots(lot)[1:]:
                    rest = [x for x in lot if x not in part]
                    right = not any(chains.strictly(x, y) for x in part for y in part)
                    right = right and not any(chains.reaches(x, y) for x in rest for y in part)
                    self.assertEqual(part in answers, right)
                    self.assertEqual(rank_told(told.with_case(lot, part)) is not None, right)

    def test_66_where_no_rank_gives_the_cases(self):
        told = Told(3, [((0, 1), (0,)), ((0, 1), (1,))])
        for lot in books_of(3):
            self.assertEqual([can_answer(told, lot), forced(told, lot)], [(), None])
            self.assertEqual([told_some(told, lot), told_all(told, lot), count_told(told)], [(), (), 0])

    def test_66_eighty_told_cases(self):
        told = Told(3, [((0, 1), (0,))] * 80)
        self.assertEqual(can_answer(told, (0, 1, 2)), ((0,), (2,), (0, 2)))
        self.assertEqual([forced(told, (0, 1)), forced(told, (1, 2)), count_told(told)], [(0,), None, 5])

    def test_66_more_than_ten_worlds(self):
        told = Told(12, [(tuple(range(12)), (3, 7))])
        for lot in (tuple(range(11)), tuple(range(12))):
            refused(self, TooMany(10), can_answer, told, lot)
            self.assertEqual([forced(told, lot), told_some(told, lot), told_all(told, lot)], [(3, 7)] * 3)
        refused(self, TooMany(10), can_answer, Told(12, [((0, 1), (0,)), ((0, 1), (1,))]), tuple(range(1, 12)))
        refused(self, BadLot(11), can_answer, told, tuple(range(11)) + (0,))
        self.assertEqual(len(can_answer(told, (0, 1, 2, 4, 5, 6, 8, 9, 10, 11))), 1023)
        rest = tuple(x for x in range(12) if x != 3)
        self.assertEqual([forced(told, rest), told_some(told, rest), told_all(told, rest)], [(7,)] * 3)
        loose = Told(11, [((0, 1), (0,))])
        whole = tuple(range(11))
        self.assertIsNone(forced(loose, whole))
        self.assertEqual([told_some(loose, whole), told_all(loose, whole)], [(0,) + whole[2:], ()])

    def test_66_refused_lots(self):
        kept = Told(3, [((0, 1), (0,))])
        torn = Told(3, [((0, 1), (0,)), ((0, 1), (1,))])
        for told in (kept, torn):
            for call in (can_answer, forced, told_some, told_all):
                for lot in NO_ROWS + ((), []):
                    refused(self, BadLot(-1), call, told, lot)
                for entry in NO_INTEGERS + (3, -1, 2):
                    refused(self, BadLot(1), call, told, [2, entry, 0])

    def test_66_one_world(self):
        for row in ((), (((0,), (0,)),) * 2):
            told = Told(1, row)
            self.assertEqual([can_answer(told, (0,)), forced(told, (0,)), count_told(told)], [((0,),), (0,), 1])
            self.assertEqual(rank_told(told), Rank.flat(1))

    def test_67_counts(self):
        for worlds, row in ROWS:
            self.assertEqual(count_told(Told(worlds, row)), len(giving(worlds, row)))
        for worlds, row in FEW[::4]:
            told = Told(worlds, row)
            for lot in books_of(worlds):
                counts = [count_told(told.with_case(lot, answer)) for answer in can_answer(told, lot)]
                self.assertEqual(sum(counts), count_told(told))
            for place in range(len(row)):
                self.assertGreaterEqual(count_told(Told(worlds, row[:place] + row[place + 1:])), count_told(told))
        self.assertEqual([count_told(Told(n, [])) for n in range(1, 7)], [1, 3, 13, 75, 541, 4683])

    def test_67_the_least_rank_has_its_cells(self):
        told = Told(4, [((0, 1, 2), (1,)), ((3, 0), (0, 3))])
        self.assertEqual(rank_told(told).cells, cells_of((1, 0, 1, 1)))


if __name__ == "__main__":
    unittest.main()
