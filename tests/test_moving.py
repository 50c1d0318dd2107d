"""Points 153, 154 and 156: moving tables, what passes from worlds to books, and giving up by moving."""

import itertools
import random
import unittest

from changes import all_moving, all_pair_tables, answers_in, some_moving, some_pair_tables, table_with
from helpers import NO_INTEGERS, NO_ROWS, books_of, lots_of, refused, sublots
from newsbooks.errors import BadNumber, BadPairs, BadTable, BadWord, OtherWorlds, TooMany
from newsbooks.moving import book_break, give_moves, move_back, moving_of, tables_behind
from newsbooks.pairtables import PairTable, pair_break
from newsbooks.ranks import Rank
from newsbooks.tables import Table
from newsbooks.wishes import WISHES, first_break, has_wish

THREES = all_moving(3)
MOVING = THREES + some_moving(4, 12, 153)
TABLES = all_pair_tables(1) + all_pair_tables(2) + some_pair_tables(3, 12, 154) + some_pair_tables(4, 2, 154)


def worlds_in(answers):
    return max(book[-1] for book, _ in answers) + 1


def rows_behind(answers):
    worlds = worlds_in(answers)
    return [Table(worlds, [(news, answers[((x,), news)]) for news in books_of(worlds)]) for x in range(worlds)]


def rest(lot, worlds):
    return tuple(x for x in range(worlds) if x not in lot)


def given_up(table):
    """E(K, A) for each book K and each lot A but W, as a dict of sets."""
    lots = lots_of(table.worlds)
    return {(book, lot): set(book) | set(table.changed(book, rest(lot, table.worlds)))
            for book in lots[1:] for lot in lots[:-1]}


def is_moving_giving(given, worlds):
    """Whether the five conditions of point 156 hold for E."""
    for (book, lot), held in given.items():
        k, a = set(book), set(lot)
        if not k <= held or not held & a <= k or held <= a or (not k & a and held != k):
            return False
    return all(given[(tuple(sorted({*book, *other})), lot)] == given[(book, lot)] | given[(other, lot)]
               for book in books_of(worlds) for other in books_of(worlds) for lot in lots_of(worlds)[:-1])


class MovingTest(unittest.TestCase):
    def test_153_moved_world_by_world(self):
        for answers in MOVING:
            rows = rows_behind(answers)
            table = moving_of(rows)
            self.assertEqual(answers_in(table), answers)
            self.assertEqual(moving_of(tuple(rows)), table)
            self.assertEqual(list(tables_behind(table)), rows)
            self.assertEqual([pair_break(table, "stays"), pair_break(table, "both")], [None, None])
        self.assertEqual(tables_behind(moving_of([Table(1, [((0,), (0,))])])), (Table(1, [((0,), (0,))]),))

    def test_153_moving_exactly_if_stays_and_both(self):
        seen = {True: 0, False: 0}
        twos = all_moving(2)
        changed = []
        for answers in THREES[::3]:
            for (book, news), answer in answers.items():
                changed = changed + [{**answers, (book, news): other} for other in sublots(news)[1:] if other != answer]
        cases = [(table, answers_in(table) in twos) for table in all_pair_tables(2)]
        for answers in changed[::2]:
            cases.append((table_with(3, answers), answers in THREES))
        for table, wanted in cases:
            seen[wanted] += 1
            self.assertEqual(tables_behind(table) is not None, wanted)
            both = pair_break(table, "stays") is None and pair_break(table, "both") is None
            self.assertIs(both, wanted)
        self.assertGreater(seen[False], 100)
        self.assertGreater(seen[True], 0)

    def test_155_of_two_worlds_just_one_moves(self):
        moving = [table for table in all_pair_tables(2) if tables_behind(table) is not None]
        self.assertEqual([len(moving), pair_break(moving[0], "keep")], [1, None])

    def test_153_wrong_tables(self):
        rows = rows_behind(THREES[0])
        for value in NO_ROWS + ((), []):
            refused(self, BadTable(-1), moving_of, value)
        for value in NO_INTEGERS + (3, PairTable(1, [((0,), (0,), (0,))])):
            refused(self, BadTable(2), moving_of, rows[:2] + [value])
        refused(self, BadTable(0), moving_of, [rows[1], rows[0], rows[2]])
        refused(self, BadTable(1), moving_of, [rows[0], rows[2], None])
        six = [Table.of_rank(Rank.two((x,), 6)) for x in range(6)]
        refused(self, TooMany(4), moving_of, six)
        refused(self, TooMany(4), moving_of, six[:2])
        refused(self, BadTable(1), moving_of, [six[0], six[0], rows[2]])
        two = Table.of_rank(Rank.two((0,), 2))
        refused(self, OtherWorlds(3), moving_of, [two, rows[1], rows[2]])
        refused(self, OtherWorlds(2), moving_of, [rows[0], Table.of_rank(Rank.two((1,), 2)), rows[2], rows[0]])
        refused(self, BadTable(1), moving_of, rows[:1])
        refused(self, BadTable(2), moving_of, rows[:2])
        refused(self, BadTable(4), moving_of, rows + [rows[0]])

    def test_154_heritage_and_outcast_pass(self):
        passed = {"heritage": 0, "outcast": 0}
        for answers in MOVING:
            rows, table, worlds = rows_behind(answers), table_with(worlds_in(answers), answers), worlds_in(answers)
            if not all(has_wish(row, "heritage") for row in rows):
                continue
            passed["heritage"] += 1
            self.assertIsNone(book_break(table, "heritage"))
            if all(has_wish(row, "outcast") for row in rows):
                passed["outcast"] += 1
                self.assertIsNone(book_break(table, "outcast"))
                for book, one, other in itertools.product(books_of(worlds), repeat=3):
                    first, second = set(answers[(book, one)]), set(answers[(book, other)])
                    self.assertTrue(first == second or not (first <= set(other) and second <= set(one)))
        self.assertGreater(min(passed.values()), 10)

    def test_154_unite_and_arrow_do_not_pass(self):
        for last in Rank([(2,), (0, 1)]), Rank.strict((2, 0, 1)), Rank.strict((2, 1, 0)):
            ranks = [Rank.strict((0, 2, 1)), Rank.strict((1, 2, 0)), last]
            table = moving_of([Table.of_rank(rank) for rank in ranks])
            for wish, lots in (("unite", ((1, 2), (0, 2))), ("arrow", ((1, 2), (0, 1, 2)))):
                for world in range(3):
                    self.assertTrue(has_wish(table.row_for((world,)), wish))
                self.assertFalse(has_wish(table.row_for((0, 1)), wish))
                self.assertIn(book_break(table, wish)[0], ((0, 1), (0, 2), (1, 2), (0, 1, 2)))
                answers = table.row_for((0, 1))
                one, other = [set(answers.answer(lot)) for lot in lots]
                if wish == "unite":
                    self.assertFalse(one & other <= set(answers.answer((0, 1, 2))))
                else:
                    self.assertTrue(other & {1, 2} and one != other & {1, 2})

    def test_154_the_first_book_that_breaks_a_wish(self):
        for table in TABLES:
            for wish in WISHES:
                broken = [(book,) + first_break(table.row_for(book), wish) for book in books_of(table.worlds)
                          if first_break(table.row_for(book), wish) is not None]
                self.assertEqual(book_break(table, wish), broken[0] if broken else None)
        for wish in ("", "stays", "Arrow", None, 3, ["arrow"], {}):
            refused(self, BadWord(wish), book_break, TABLES[0], wish)


class GivingUpTest(unittest.TestCase):
    def test_156_what_is_given_up(self):
        for table in TABLES:
            found = give_moves(table)
            self.assertEqual({(book, lot): set(held) for book, lot, held in found}, given_up(table))
            lots = lots_of(table.worlds)
            self.assertEqual([row[:2] for row in found], list(itertools.product(lots[1:], lots[:-1])))

    def test_156_moving_tables_come_back(self):
        for answers in MOVING:
            worlds = worlds_in(answers)
            table = table_with(worlds, answers)
            triples = give_moves(table)
            self.assertEqual(move_back(worlds, triples), table)
            turned = [[list(reversed(lot)) for lot in row] for row in reversed(triples)]
            self.assertEqual(move_back(worlds, turned), table)
            given = {row[:2]: set(row[2]) for row in triples}
            self.assertTrue(is_moving_giving(given, worlds))

    def test_156_one_to_one(self):
        """Of E with an entry changed at will, just those that come of a moving table meet the conditions."""
        keys = list(itertools.product(books_of(2), lots_of(2)[:-1]))
        singles = [[lot for lot in lots_of(2) if set(book) <= set(lot)] for book, _ in keys]
        sound = []
        for row in itertools.product(*singles):
            given = dict(zip(keys, [set(lot) for lot in row]))
            if is_moving_giving(given, 2):
                sound.append(given)
        self.assertEqual(sound, [given_up(table_with(2, answers)) for answers in all_moving(2)])
        chance = random.Random(156)
        known = [given_up(table_with(3, answers)) for answers in THREES]
        for given in known[::2]:
            for key in chance.sample(list(given), 12):
                for lot in lots_of(3):
                    changed = {**given, key: set(lot)}
                    self.assertIs(is_moving_giving(changed, 3), changed in known)

    def test_156_of_any_triples(self):
        chance = random.Random(157)
        none = 0
        for _ in range(120):
            keys = list(itertools.product(books_of(2), lots_of(2)[:-1]))
            triples = [(book, lot, chance.choice(lots_of(2) + [(0, 1)] * 12)) for book, lot in keys]
            answers = {(book, rest(lot, 2)): tuple(x for x in held if x not in lot) for book, lot, held in triples}
            found = move_back(2, triples)
            none += found is None
            self.assertEqual(found is None, () in answers.values())
            if found is not None:
                self.assertEqual(answers_in(found), answers)
        self.assertTrue(20 < none < 110)
        self.assertIsNone(move_back(1, [((0,), (), ())]))
        self.assertEqual(move_back(1, [[[0], [], [0]]]).worlds, 1)

    def test_156_wrong_triples(self):
        right = [(book, lot, (0, 1)) for book in books_of(2) for lot in lots_of(2)[:-1]]
        for worlds in NO_INTEGERS + (0, 5):
            refused(self, BadNumber("worlds"), move_back, worlds, None)
        for triples in NO_ROWS:
            refused(self, BadPairs(-1), move_back, 2, triples)
        wrong = [((), (), ()), ((0,), (0, 1), ()), ((0,), (1, 0), (1,)), ((0,), (2,), ()), ((0,), ()), None, "abc",
                 ((0,), (), (0, 0)), ((True,), (), ()), ((0,), None, ()), ((0,), (), (), ())]
        for entry in wrong:
            for place in (0, 4, 9):
                refused(self, BadPairs(place), move_back, 2, right[:place] + [entry] + right[place:])
        refused(self, BadPairs(9), move_back, 2, right + [right[3]])
        for gone in range(9):
            refused(self, BadPairs(8), move_back, 2, right[:gone] + right[gone + 1:])


if __name__ == "__main__":
    unittest.main()
