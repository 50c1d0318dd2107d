"""Points 97 and 98: rows of news and their folds."""

import itertools
import random
import unittest

from helpers import NO_INTEGERS, NO_ROWS, best_of, books_of, lots_of, ranks_of, refused
from newsbooks.errors import BadLot, BadNews, BadNumber, TooMany
from newsbooks.folds import fold, is_fold, leaned_row, led_row, news_of, pushed_row, row_answer, taken_news
from newsbooks.ranks import Rank
from newsbooks.turning import turned

TURNS = ((led_row, "lead"), (pushed_row, "push"), (leaned_row, "lean"))


def rows_of(worlds, most):
    """All rows of at most so many pieces."""
    return [row for many in range(most + 1) for row in itertools.product(books_of(worlds), repeat=many)]


def some_rows(worlds, most, many, seed):
    """Some rows of news, always the same ones."""
    chance = random.Random(seed)
    books = books_of(worlds)
    return [tuple(chance.choice(books) for _ in range(chance.randint(0, most))) for _ in range(many)]


def folded(row, asked):
    """The fold, by the words of the document."""
    lot, places = set(asked), []
    for place in reversed(range(len(row))):
        if lot & set(row[place]):
            lot = lot & set(row[place])
            places.insert(0, place)
    return (tuple(sorted(lot)), tuple(places))


def meets_the_conditions(row, worlds, asked, lot, places):
    """Whether lot and places are the fold, by the last sentence of the point."""
    common = set(asked)
    for place in places:
        common = common & set(row[place])
    if not common or tuple(sorted(common)) != tuple(lot):
        return False
    for place in range(len(row)):
        newer = set(asked)
        for taken in places:
            newer = newer & set(row[taken]) if taken > place else newer
        if place not in places and newer & set(row[place]):
            return False
    return True


ROWS = [(1, row) for row in rows_of(1, 3)] + [(2, row) for row in rows_of(2, 3)] + [(3, row) for row in rows_of(3, 2)]
ROWS = ROWS + [(3, row) for row in some_rows(3, 6, 60, 97)] + [(4, row) for row in some_rows(4, 6, 60, 97)]


class RowsTest(unittest.TestCase):
    def test_97_rows_of_news(self):
        self.assertEqual(news_of([[1, 0], (2,), [1, 0]], 3), ((0, 1), (2,), (0, 1)))
        self.assertEqual([news_of([], 1), news_of((), 12)], [(), ()])
        for worlds, row in ROWS:
            self.assertEqual(news_of([list(reversed(piece)) for piece in row], worlds), row)

    def test_97_led_pushed_and_leaned_by_a_row(self):
        for worlds, row in ROWS:
            for rank in ranks_of(worlds)[::9]:
                for call, word in TURNS:
                    after = rank
                    for piece in row:
                        after = turned(after, word, piece)
                    self.assertEqual(call(rank, [list(reversed(piece)) for piece in row]), after)

    def test_97_refused_rows(self):
        rank = Rank.flat(3)
        calls = [lambda row: news_of(row, 3), lambda row: fold(row, 3, "no lot"), lambda row: taken_news(row, 3),
                 lambda row: row_answer(rank, row, "no lot"), lambda row: is_fold(row, 3, "no lot", None, None)]
        calls = calls + [lambda row: led_row(rank, row), lambda row: pushed_row(rank, row),
                         lambda row: leaned_row(rank, row)]
        for call in calls:
            for row in NO_ROWS:
                refused(self, BadNews(-1), call, row)
            for piece in NO_ROWS + ((), [], (3,), (1, 1), (True,), ("1",)):
                refused(self, BadNews(1), call, [(0,), piece, None])
                refused(self, BadNews(20), call, [(0,)] * 20 + [piece])
            refused(self, TooMany(20), call, [(0,)] * 21)

    def test_97_twenty_pieces(self):
        row = [(0, 1)] * 20
        self.assertEqual(news_of(row, 3), ((0, 1),) * 20)
        self.assertEqual(fold(row, 3, (2,)), ((2,), ()))
        self.assertEqual(fold(row, 3, (0, 2)), ((0,), tuple(range(20))))
        self.assertEqual(taken_news(row, 3), ((0, 1),) * 20)
        for call, _ in TURNS:
            self.assertEqual(call(Rank.flat(3), row), Rank([(0, 1), (2,)]))

    def test_97_refused_worlds_and_lots(self):
        for worlds in NO_INTEGERS + (0, 13):
            refused(self, BadNumber("worlds"), news_of, "no row", worlds)
            refused(self, BadNumber("worlds"), taken_news, "no row", worlds)
            refused(self, BadNumber("worlds"), fold, "no row", worlds, "no lot")
            refused(self, BadNumber("worlds"), is_fold, "no row", worlds, "no lot", None, None)
        calls = [lambda lot: fold([(0,)], 3, lot), lambda lot: row_answer(Rank.flat(3), [(0,)], lot),
                 lambda lot: is_fold([(0,)], 3, lot, None, None)]
        for call in calls:
            for lot in NO_ROWS + ((), []):
                refused(self, BadLot(-1), call, lot)
            for entry in NO_INTEGERS + (3, -1, 2):
                refused(self, BadLot(1), call, [2, entry, 0])


class FoldTest(unittest.TestCase):
    def test_98_folds(self):
        for worlds, row in ROWS:
            turned_row = [list(reversed(piece)) for piece in row]
            for asked in books_of(worlds):
                self.assertEqual(fold(turned_row, worlds, list(reversed(asked))), folded(row, asked))
            _, places = folded(row, range(worlds))
            self.assertEqual(taken_news(turned_row, worlds), tuple(row[place] for place in places))

    def test_98_the_best_behind_a_row(self):
        for worlds, row in ROWS:
            ranks = ranks_of(worlds)
            for rank in ranks[::7] + ranks[-1:]:
                after = led_row(rank, row)
                for asked in books_of(worlds):
                    lot, _ = fold(row, worlds, asked)
                    self.assertEqual(row_answer(rank, row, list(reversed(asked))), after.best(asked))
                    self.assertEqual(best_of(rank.levels, lot), after.best(asked))

    def test_98_the_pieces_taken_alone(self):
        for worlds, row in ROWS[-80:]:
            for asked in books_of(worlds):
                lot, places = fold(row, worlds, asked)
                for part in itertools.permutations([row[place] for place in places][:4]):
                    rest = [row[place] for place in places][4:]
                    self.assertEqual(fold(list(part) + rest, worlds, asked)[0], lot)

    def test_98_is_fold(self):
        for worlds, row in ROWS[:60] + [(3, row) for row in some_rows(3, 4, 20, 98)]:
            for asked in books_of(worlds):
                for lot in lots_of(worlds):
                    for places in lots_of(len(row)):
                        right = meets_the_conditions(row, worlds, asked, lot, places)
                        self.assertIs(is_fold(row, worlds, asked, lot, list(places)), right)
                        self.assertEqual(right, (lot, places) == folded(row, asked))

    def test_98_what_is_no_fold(self):
        row, asked = [(0, 1), (1, 2)], (0, 1, 2)
        self.assertIs(is_fold(row, 3, asked, [1], (0, 1)), True)
        for lot in NO_ROWS + ((), (True,), ("1",), (1.0,), (1, 1), ((1,),), 1):
            self.assertIs(is_fold(row, 3, asked, lot, (0, 1)), False)
        for taken in NO_ROWS + ((), (1, 0), (0, True), (False, 1), (0,), (0, 1, 2), (0, 1, 1), (0.0, 1), ("0", "1")):
            self.assertIs(is_fold(row, 3, asked, (1,), taken), False)
        self.assertIs(is_fold([], 3, (2, 0), (0, 2), ()), True)
        self.assertIs(is_fold([], 3, (2, 0), (2, 0), ()), False)


if __name__ == "__main__":
    unittest.main()
