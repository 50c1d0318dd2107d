"""Points 61 and 62: told cases and their comparisons."""

import itertools
import unittest

from helpers import NO_INTEGERS, NO_ROWS, all_cases, best_of, books_of, case_rows, giving, level_rows, ranks_of
from helpers import refused, some_case_rows
from newsbooks.cases import Told, told_of
from newsbooks.comparisons import keeps
from newsbooks.errors import BadCase, BadFamily, BadLot, BadNumber, OtherWorlds, TooMany
from newsbooks.ranks import Rank
from newsbooks.tables import Table, all_tables

ROWS = [(1, row) for row in case_rows(1, 3)] + [(2, row) for row in case_rows(2, 3)]
ROWS = ROWS + [(3, row) for row in case_rows(3, 2)] + [(3, row) for row in some_case_rows(3, 6, 200, 61)]
ROWS = ROWS + [(4, row) for row in some_case_rows(4, 6, 80, 61)]


def comparisons_of_one(lot, answer):
    """The comparisons of a case, by the words of the document."""
    least = min(answer)
    found = []
    for x in sorted(answer):
        if x != least:
            found.append((least, "<=", x))
            found.append((x, "<=", least))
    return found + [(least, "<", z) for z in sorted(lot) if z not in answer]


class CasesTest(unittest.TestCase):
    def test_61_told(self):
        told = Told(3, [[[2, 0], [2]], ((1, 0, 2), (1,)), ([0, 2], (0,)), ((0, 2), (2,))])
        self.assertEqual(told.cases, (((0, 2), (2,)), ((0, 1, 2), (1,)), ((0, 2), (0,)), ((0, 2), (2,))))
        self.assertEqual([told.worlds, len(told)], [3, 4])
        self.assertEqual(list(told), list(told.cases))
        for worlds in range(1, 13):
            none = Told(worlds, [])
            self.assertEqual([none.cases, none.comparisons, none.sources, len(none)], [(), (), (), 0])
            self.assertEqual(none.worlds, worlds)

    def test_61_refused_cases(self):
        for worlds in NO_INTEGERS + (0, 13, -1):
            refused(self, BadNumber("worlds"), Told, worlds, "no cases")
        for cases in NO_ROWS:
            refused(self, BadCase(-1), Told, 3, cases)
        good = ((0, 1), (0,))
        wrong = NO_ROWS + ((), ((0,),), ((0,), (0,), (0,)), ((), ()), ((0,), ()), ((0, 3), (0,)), ((0, 0), (0,)))
        wrong = wrong + (((0, 1), (2,)), ((0,), (0, 1)), ((0, 1), (1, 1)), ((0, True), (0,)), ((0, 1), ("0",)))
        wrong = wrong + (((0, 1), None), (None, (0,)), ("01", "0"), [[0], [1]])
        for entry in wrong:
            refused(self, BadCase(2), Told, 3, [good, good, entry, good])
            refused(self, BadCase(0), Told, 3, (entry, None))
            refused(self, BadCase(90), Told, 3, [good] * 90 + [entry])

    def test_61_eighty_cases_and_one_more(self):
        case = ((1, 0), (1,))
        told = Told(2, [case] * 80)
        self.assertEqual([len(told), told.cases[79], len(told.comparisons)], [80, ((0, 1), (1,)), 80])
        refused(self, TooMany(80), Told, 2, [case] * 81)
        refused(self, TooMany(80), told.with_case, (0,), (0,))
        self.assertEqual(len(Told(2, [case] * 79).with_case((0,), (0,))), 80)
        # The most comparisons that 80 cases have.
        self.assertEqual(len(Told(12, [(tuple(range(12)),) * 2] * 80).comparisons), 1760)

    def test_61_given_by(self):
        for worlds, row in ROWS:
            told = Told(worlds, row)
            given = giving(worlds, row)
            for rank in ranks_of(worlds):
                self.assertIs(told.given_by(rank), rank.levels in given)
        for worlds in (1, 2, 4):
            refused(self, OtherWorlds(worlds), Told(3, []).given_by, Rank.flat(worlds))

    def test_61_a_lot_told_twice_with_unlike_answers(self):
        told = Told(2, [((0, 1), (0,)), ((0, 1), (0, 1))])
        self.assertFalse(any(told.given_by(rank) for rank in ranks_of(2)))
        self.assertEqual(told.comparisons, ((0, "<", 1), (0, "<=", 1), (1, "<=", 0)))

    def test_61_with_case(self):
        for worlds, row in ROWS[:200]:
            told = Told(worlds, row[:-1])
            if row:
                lot, answer = row[-1]
                self.assertEqual(told.with_case(list(reversed(lot)), list(reversed(answer))), Told(worlds, row))
                self.assertEqual(told.cases, row[:-1])

    def test_61_with_case_refused(self):
        told = Told(3, [((0, 1), (0,))] * 80)
        for lot in NO_ROWS + ((), []):
            refused(self, BadLot(-1), told.with_case, lot, "no answer")
            refused(self, BadLot(-1), told.with_case, (0, 1, 2), lot)
        refused(self, BadLot(-1), told.with_case, (), (0, 3))
        for entry in NO_INTEGERS + (3, -1, 2):
            refused(self, BadLot(1), told.with_case, [2, entry], "no answer")
            refused(self, BadLot(1), told.with_case, [2, 0], [2, entry])
        refused(self, BadLot(-1), told.with_case, (0, 1), (2,))
        refused(self, BadLot(-1), told.with_case, (0, 1), (0, 1, 2))
        refused(self, TooMany(80), told.with_case, (0, 1), (0,))

    def test_61_equal_told_cases(self):
        one = Told(3, [((0, 1), (0,)), ((2,), (2,))])
        self.assertTrue(one == Told(3, [[[1, 0], [0]], [[2], [2]]]))
        for other in (Told(4, one.cases), Told(3, one.cases[::-1]), Told(3, one.cases[:1]), one.cases, None, 3,
                      Told(3, [((0, 1), (1,)), ((2,), (2,))])):
            self.assertFalse(one == other)
            self.assertTrue(one != other)
        self.assertFalse(Told(1, []) == Told(2, []))

    def test_61_told_of(self):
        tables = list(all_tables(1)) + list(all_tables(2)) + list(all_tables(3))[::20]
        for table in tables:
            for many in (0, 1, 2):
                for row in itertools.product(books_of(table.worlds), repeat=many):
                    told = told_of(table, [list(reversed(lot)) for lot in row])
                    self.assertEqual(told, Told(table.worlds, [(lot, table.answer(lot)) for lot in row]))

    def test_61_told_of_refused_families(self):
        table = Table.of_rank(Rank.flat(3))
        for family in NO_ROWS + ([(0,)] * 81, [()] * 81):
            refused(self, BadFamily(-1), told_of, table, family)
        for lot in NO_ROWS + ((), [], (3,), (1, 1), (True,)):
            refused(self, BadFamily(1), told_of, table, [(0,), lot, None])
        self.assertEqual(len(told_of(table, [(1, 0)] * 80)), 80)

    def test_62_comparisons_of_cases(self):
        for worlds, row in ROWS:
            told = Told(worlds, row)
            wanted = [(k, entry) for k, case in enumerate(row) for entry in comparisons_of_one(*case)]
            self.assertEqual(told.comparisons, tuple(entry for _, entry in wanted))
            self.assertEqual(told.sources, tuple(k for k, _ in wanted))
        told = Told(4, [((0,), (0,)), ((3, 2, 1, 0), (3, 1))])
        self.assertEqual(told.comparisons, ((1, "<=", 3), (3, "<=", 1), (1, "<", 0), (1, "<", 2)))
        self.assertEqual(told.sources, (1, 1, 1, 1))

    def test_62_a_rank_gives_the_cases_exactly_if_it_keeps_their_comparisons(self):
        for worlds, row in ROWS:
            told = Told(worlds, row)
            for rank in ranks_of(worlds):
                self.assertIs(told.given_by(rank), keeps(rank, told.comparisons))
        for worlds in (1, 2, 3):
            for lot, answer in all_cases(worlds):
                told = Told(worlds, [(lot, answer)])
                for levels in level_rows(worlds):
                    self.assertIs(told.given_by(Rank.of_levels(levels)), best_of(levels, lot) == answer)


if __name__ == "__main__":
    unittest.main()
