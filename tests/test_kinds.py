"""Point 120: journals in which it is not told how some lots were put in."""

import itertools
import random
import unittest

from helpers import NO_INTEGERS, NO_ROWS, books_of, ranks_of, refused
from newsbooks.errors import BadDeed, BadLot, BadNumber, BadWord, TooMany
from newsbooks.kinds import first_parting, kinds_that_fit
from stores import WORDS, all_deeds, givers, store_behind
from test_journals import WRONG

PUTS = ("lead", "lean", "push")
PUT = ("put", (0, 1), (0,))
NO_PUTS = ("", "Lead", "put", "level", "ask", "back", None, 3, ["lead"], ("lead",), {})


def with_words(entries, row):
    """The entries with the words of the row in the places of the untold ones."""
    words = iter(row)
    return [(next(words) if word == "put" else word, lot, answer) for word, lot, answer in entries]


def some_untold(most, many, seed):
    """Worlds, lots of the beginning and entries of journals with untold puts, most of them asked about afterwards."""
    chance = random.Random(seed)
    found = []
    while len(found) < many:
        worlds = chance.choice([2, 3, 3, 3])
        rank = chance.choice(ranks_of(worlds))
        kinds = {word: [deed for deed in all_deeds(worlds) if deed[0] == word] for word in WORDS}
        words = [chance.choice(PUTS)] + [chance.choice(PUTS + WORDS + ("ask",) * 8) for _ in range(most - 1)]
        deeds = [chance.choice(kinds[word]) for word in words[:chance.randint(0, most)]]
        answers, _ = store_behind(rank, deeds)
        entries = [("put" if word in PUTS and chance.random() < 0.8 else word, lot, answer)
                   for (word, lot), answer in zip(deeds, answers)]
        if entries and chance.random() < 0.2:
            place = chance.randrange(len(entries))
            entries[place] = entries[place][:2] + (chance.choice(books_of(worlds)),)
        if len([entry for entry in entries if entry[0] == "put"]) <= 3:
            found.append((worlds, rank.held, entries))
    return found


UNTOLD = some_untold(6, 220, 120)
KNOWN = {}


def rows_for(entries):
    many = len([entry for entry in entries if entry[0] == "put"])
    return list(itertools.product(PUTS, repeat=many))


def fits(worlds, held, entries, row):
    key = (worlds, held, tuple(with_words(entries, row)))
    if key not in KNOWN:
        KNOWN[key] = bool(givers(*key[:2], list(key[2])))
    return KNOWN[key]


class KindsTest(unittest.TestCase):
    def test_120_rows_that_fit(self):
        counts = set()
        for worlds, held, entries in UNTOLD:
            turned = [[word, list(reversed(lot)), list(reversed(answer))] for word, lot, answer in entries]
            wanted = tuple(row for row in rows_for(entries) if fits(worlds, held, entries, row))
            self.assertEqual(kinds_that_fit(worlds, list(reversed(held)), turned), wanted)
            counts.add((len(rows_for(entries)), len(wanted)))
        self.assertTrue({(3, 0), (3, 1), (3, 2), (3, 3), (9, 9), (27, 27), (1, 1), (1, 0)} <= counts, counts)

    def test_120_a_row_found_out(self):
        # A second ask, behind "back", tells that 1 and 2 were alike: "push" would have left them so.
        entries = [("put", (0, 1), (0,)), ("ask", (1, 2), (1,)), ("back", (), (0,)), ("ask", (1, 2), (1, 2))]
        self.assertEqual(kinds_that_fit(3, (0,), entries), (("lead",), ("lean",)))
        self.assertEqual(kinds_that_fit(3, (0,), entries[:1]), (("lead",), ("lean",), ("push",)))
        self.assertEqual(first_parting(3, (0,), entries, ("lean",), ("push",)), 4)
        self.assertIsNone(first_parting(3, (0,), entries, ("lean",), ("lead",)))
        self.assertIsNone(first_parting(3, (0,), entries[:3], ("lean",), ("push",)))
        # "lead" puts 1 ahead of 2 in any case.
        led = [("put", (0, 1), (0,)), ("ask", (1, 2), (2,))]
        self.assertEqual(kinds_that_fit(3, (0,), led), (("lean",), ("push",)))
        self.assertEqual(first_parting(3, (0,), led, ("push",), ("lead",)), 2)

    def test_120_no_puts(self):
        self.assertEqual(kinds_that_fit(2, (0,), []), ((),))
        self.assertEqual(kinds_that_fit(2, (0,), [("ask", (0, 1), (0,))]), ((),))
        self.assertEqual(kinds_that_fit(2, (0,), [("ask", (0, 1), (1,))]), ())
        self.assertIsNone(first_parting(2, (0,), [("ask", (0, 1), (1,))], (), []))

    def test_120_five_puts_and_six(self):
        self.assertEqual(kinds_that_fit(3, (0,), [PUT] * 5), tuple(itertools.product(PUTS, repeat=5)))
        refused(self, TooMany(243), kinds_that_fit, 3, (0,), [PUT] * 6)
        refused(self, BadDeed(6), kinds_that_fit, 3, (0,), [PUT] * 6 + [None])
        self.assertIsNone(first_parting(3, (0,), [PUT] * 6, ["lead"] * 6, ("push",) * 6))

    def test_120_sixty_entries(self):
        entries = [("put", (0, 1), (0,))] * 5 + [("ask", (1, 2), (1,))] * 55
        self.assertEqual(len(kinds_that_fit(3, (0,), entries)), 243)
        self.assertIsNone(first_parting(3, (0,), entries, ("lead",) * 5, ("push",) * 5))

    def test_120_where_two_rows_part(self):
        seen = set()
        for worlds, held, entries in UNTOLD[:140]:
            rows = rows_for(entries)
            for one, other in list(itertools.product(rows, repeat=2))[::4]:
                wanted = None
                for many in reversed(range(len(entries) + 1)):
                    first = entries[:many]
                    if fits(worlds, held, first, one) != fits(worlds, held, first, other):
                        wanted = many
                self.assertEqual(first_parting(worlds, held, entries, list(one), other), wanted)
                seen.add(wanted)
        self.assertTrue({None, 3, 4} <= seen, seen)

    def test_120_refused_arguments(self):
        calls = [kinds_that_fit, lambda *args: first_parting(*args, "no row", "no row")]
        for call in calls:
            for worlds in NO_INTEGERS + (0, 13):
                refused(self, BadNumber("worlds"), call, worlds, "no lot", "no entries")
            for lot in NO_ROWS + ((), []):
                refused(self, BadLot(-1), call, 3, lot, "no entries")
            refused(self, BadLot(1), call, 3, (0, 3), "no entries")
            for entries in NO_ROWS:
                refused(self, BadDeed(-1), call, 3, (0,), entries)
            for entry in WRONG + (("put", (), (0,)), ("put", (3,), (0,)), ("put", (0,), ()), ("put", (0,), (3,))):
                if entry != ("put", (0,), (0,)):
                    refused(self, BadDeed(1), call, 3, (0,), [PUT, entry, None])
            refused(self, TooMany(60), call, 3, (0,), [PUT] * 61)
            refused(self, TooMany(60), call, 3, (0,), [None] * 61)

    def test_120_refused_rows(self):
        entries = [PUT, ("ask", (0, 1), (0,)), PUT]
        for row in NO_ROWS + ((), ("lead",), ("lead",) * 3, "ab"):
            refused(self, BadNumber("row"), first_parting, 3, (0,), entries, row, "no row")
            refused(self, BadNumber("other"), first_parting, 3, (0,), entries, ("lead", "lean"), row)
        for word in NO_PUTS:
            refused(self, BadWord(word), first_parting, 3, (0,), entries, ("lead", word), "no row")
            refused(self, BadWord(word), first_parting, 3, (0,), entries, [word, None], "no row")
            refused(self, BadWord(word), first_parting, 3, (0,), entries, ("lead", "lean"), ("push", word))
        refused(self, BadNumber("row"), first_parting, 3, (0,), [], ("lead",), ())


if __name__ == "__main__":
    unittest.main()
