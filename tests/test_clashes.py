"""Point 155: wishes for pair tables that cannot be had at once."""

import itertools
import unittest

from changes import all_pair_tables, answers_in, some_pair_tables, table_with
from helpers import NO_INTEGERS, books_of, refused, sublots
from newsbooks.clashes import CLASHES, clash_break, clash_cases
from newsbooks.errors import BadNumber
from newsbooks.pairtables import pair_break
from test_pairtables import is_broken

TABLES = some_pair_tables(3, 15, 155) + some_pair_tables(4, 2, 155)

CASES = [
    [((0,), (1, 2)), ((1,), (1, 2)), ((2,), (1, 2)), ((0, 1), (1, 2)), ((0, 2), (1, 2))],
    [((0,), (1, 2)), ((0, 1), (1, 2)), ((0, 2), (1, 2))],
    [((0, 1), (0,)), ((0, 1, 2), (0,)), ((0,), (1, 2)), ((0, 1), (1, 2)), ((0, 1, 2), (1, 2))],
]


def union(one, other):
    return tuple(sorted({*one, *other}))


def used(answers, wish, book, other, news, later):
    """The pair of lots at each U in the line of the wish."""
    if wish == "both":
        return [(union(book, other), news), (book, news), (other, news)]
    if wish == "mono":
        return [(book, news), (other, news)]
    if wish == "apart":
        return [(book, news), (answers[(book, news)], later), (book, later)]
    return [(book, news)]


def falls(table, clash):
    """The first wish that falls within the cases, and the least lots, by a search through all lots."""
    answers, lots = answers_in(table), books_of(table.worlds)
    for wish in CLASHES[clash]:
        seconds = lots if wish in ("both", "mono") else [()]
        lasts = lots if wish == "apart" else [()]
        for row in itertools.product(lots, seconds, lots, lasts):
            if is_broken(answers, wish, *row) and set(used(answers, wish, *row)) <= set(CASES[clash]):
                return (wish,) + row
    return None


class ClashesTest(unittest.TestCase):
    def test_155_clashes_and_cases(self):
        self.assertEqual(CLASHES, (("both", "keep"), ("mono", "keep"), ("keep", "apart")))
        for clash in (0, 1, 2):
            self.assertEqual(clash_cases(clash), tuple(CASES[clash]))

    def test_155_one_of_the_wishes_falls_within_the_cases(self):
        seen = set()
        for table in TABLES:
            for clash in (0, 1, 2):
                found = clash_break(table, clash)
                self.assertEqual(found, falls(table, clash))
                wishes = [wish for wish in CLASHES[clash] if pair_break(table, wish) is not None]
                self.assertIn(found[0], wishes)
                seen.add((clash, found[0]))
        self.assertEqual(len(seen), 6)

    def test_155_all_answers_to_the_cases(self):
        """What a table gives elsewhere does not count: with all answers to the cases, one wish falls within them."""
        for table in TABLES[:4]:
            for clash in (0, 1, 2):
                answers = answers_in(table)
                for row in itertools.product(*[sublots(news)[1:] for _, news in CASES[clash]]):
                    changed = table_with(3, {**answers, **dict(zip(CASES[clash], row))})
                    wish, *lots = clash_break(changed, clash)
                    told = answers_in(changed)
                    self.assertTrue(is_broken(told, wish, *lots))
                    self.assertTrue(set(used(told, wish, *lots)) <= set(CASES[clash]))

    def test_155_no_clash_of_two_worlds(self):
        for table in all_pair_tables(1) + all_pair_tables(2):
            for clash in (0, 1, 2):
                refused(self, BadNumber("worlds"), clash_break, table, clash)
        have = [[pair_break(table, wish) is None for wish in ("both", "keep", "mono", "apart")]
                for table in all_pair_tables(2)]
        self.assertIn([True, True, True, True], have)

    def test_155_other_numbers(self):
        for clash in NO_INTEGERS + (3, -1, 10 ** 9):
            refused(self, BadNumber("clash"), clash_cases, clash)
            refused(self, BadNumber("clash"), clash_break, TABLES[0], clash)
            refused(self, BadNumber("clash"), clash_break, all_pair_tables(1)[0], clash)


if __name__ == "__main__":
    unittest.main()
