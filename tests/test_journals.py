"""Points 106 and 107: stores, journals, and the ranks that give them."""

import itertools
import unittest

from helpers import NO_INTEGERS, NO_ROWS, books_of, ranks_of, refused
from newsbooks.errors import BadDeed, BadFamily, BadLot, BadNumber, OtherWorlds, TooMany
from newsbooks.journals import Journal, gives, journal_of
from newsbooks.lots import rest_of
from newsbooks.ranks import Rank
from stores import NO_WORDS, WORDS, all_deeds, deeds_in, lots_for, short_journals, some_journals, store_behind

JOURNALS = short_journals()[::7] + some_journals(3, 6, 150, 106) + some_journals(4, 6, 40, 106)

# Entries of three worlds that are none, for a place at which any entry may stand.
WRONG = NO_ROWS + ((), ("ask", (0,)), ("ask", (0,), (0,), (0,)), (("ask",), (0,), (0,)), ("ask", (0,), ()))
WRONG = WRONG + (("ask", (0,), (3,)), ("ask", (0,), (0, 0)), ("ask", (0,), None), ("ask", (0,), (True,)))
WRONG = WRONG + (("ask", (), (0,)), ("lead", (), (0,)), ("push", [], (0,)), ("lean", (), (0,)), ("ask", None, (0,)))
WRONG = WRONG + (("level", (0, 1, 2), (0,)), ("sink", (2, 1, 0), (0,)), ("back", (0,), (0,)), ("back", None, (0,)))
WRONG = WRONG + (("lead", (3,), (0,)), ("level", (0, 0), (0,)), ("sink", (-1,), (0,)), ("sink", (True,), (0,)))
WRONG = WRONG + tuple((word, (0,), (0,)) for word in NO_WORDS)
GOOD = ("ask", (0, 1), (0,))


class JournalTest(unittest.TestCase):
    def test_107_journals(self):
        entries = [["lead", [2, 0], [0]], ("level", (), [1, 0]), ["back", [], (0,)], ("ask", [2, 1], [2, 1])]
        journal = Journal(3, [2, 0], entries)
        wanted = (("lead", (0, 2), (0,)), ("level", (), (0, 1)), ("back", (), (0,)), ("ask", (1, 2), (1, 2)))
        self.assertEqual([journal.worlds, journal.beginning, journal.entries], [3, (0, 2), wanted])
        self.assertEqual([len(journal), list(journal), journal.now], [4, list(wanted), (0,)])
        self.assertEqual([len(Journal(1, (0,))), Journal(1, (0,)).entries], [0, ()])
        for entry in wanted:
            self.assertEqual(Journal(3, (0,), (entry,)).entries, (entry,))

    def test_107_begin(self):
        for worlds in (1, 3, 12):
            journal = Journal.begin(worlds, [worlds - 1])
            self.assertEqual(journal, Journal(worlds, (worlds - 1,), ()))
            self.assertEqual([journal.now, journal.beginning, list(journal)], [(worlds - 1,)] * 2 + [[]])
        for worlds in NO_INTEGERS + (0, 13):
            refused(self, BadNumber("worlds"), Journal.begin, worlds, "no lot")
        refused(self, BadLot(-1), Journal.begin, 3, ())
        refused(self, BadLot(1), Journal.begin, 3, (0, 3))

    def test_107_refused_worlds_and_lots(self):
        for worlds in NO_INTEGERS + (0, 13, -1):
            refused(self, BadNumber("worlds"), Journal, worlds, "no lot", "no entries")
        for lot in NO_ROWS + ((), []):
            refused(self, BadLot(-1), Journal, 3, lot, "no entries")
        for entry in NO_INTEGERS + (3, -1, 2):
            refused(self, BadLot(1), Journal, 3, [2, entry, 0], "no entries")

    def test_107_refused_entries(self):
        for entries in NO_ROWS:
            refused(self, BadDeed(-1), Journal, 3, (0,), entries)
        for entry in WRONG:
            refused(self, BadDeed(1), Journal, 3, (0,), [GOOD, entry, None])
            refused(self, BadDeed(59), Journal, 3, (0,), [GOOD] * 59 + [entry])
        refused(self, TooMany(60), Journal, 3, (0,), [GOOD] * 61)
        refused(self, TooMany(60), Journal, 3, (0,), [None] * 61)
        self.assertEqual(len(Journal(3, (0,), [GOOD] * 60)), 60)

    def test_107_with_entry(self):
        for journal in JOURNALS:
            made = Journal.begin(journal.worlds, journal.beginning)
            for word, lot, answer in journal:
                before = made
                made = before.with_entry(word, list(reversed(lot)), list(reversed(answer)))
                self.assertEqual([len(made), made.entries[:-1]], [len(before) + 1, before.entries])
            self.assertEqual(made, journal)

    def test_107_with_entry_refused(self):
        two = Journal(3, (0,), [GOOD, GOOD])
        full = Journal(3, (0,), [GOOD] * 60)
        for entry in WRONG:
            if isinstance(entry, tuple) and len(entry) == 3:
                refused(self, BadDeed(2), two.with_entry, *entry)
                refused(self, TooMany(60), full.with_entry, *entry)
        refused(self, TooMany(60), full.with_entry, *GOOD)
        self.assertEqual(len(Journal(3, (0,), [GOOD] * 59).with_entry(*GOOD)), 60)

    def test_107_equal_journals(self):
        journal = Journal(3, (0,), [GOOD, ("back", (), (1,))])
        self.assertTrue(journal == Journal(3, [0], [["ask", [1, 0], [0]], ["back", [], [1]]]))
        for other in (Journal(4, (0,), journal.entries), Journal(3, (1,), journal.entries), journal.entries, None,
                      Journal(3, (0,), journal.entries[:1]), Journal(3, (0,), journal.entries[::-1])):
            self.assertFalse(journal == other)
            self.assertTrue(journal != other)

    def test_107_held_now(self):
        for journal in JOURNALS:
            held = [answer for word, _, answer in journal if word != "ask"]
            self.assertEqual(journal.now, held[-1] if held else journal.beginning)

    def test_106_deeds_that_stand(self):
        for journal in JOURNALS:
            standing = []
            for place, (word, _, _) in enumerate(journal):
                if word == "back":
                    standing = standing[:-1]
                elif word != "ask":
                    standing = standing + [place]
            self.assertEqual(journal.standing(), tuple(standing))
        row = [("back", (), (0,)), ("lead", (0,), (0,)), ("sink", (1,), (0,)), GOOD, ("back", (), (0,)),
               ("level", (), (0,)), ("back", (), (0,)), ("back", (), (0,)), ("back", (), (0,)), ("push", (0,), (0,))]
        stands = [Journal(3, (0,), row[:many]).standing() for many in range(len(row) + 1)]
        self.assertEqual(stands, [(), (), (1,), (1, 2), (1, 2), (1,), (1, 5), (1,), (), (), (9,)])

    def test_107_journals_over_a_family(self):
        books = books_of(3)
        for journal in some_journals(3, 3, 60, 107):
            used = set()
            for word, lot, _ in journal:
                if word in ("level", "sink"):
                    used.add(rest_of(lot, 3))
                elif word != "back":
                    used.add(lot)
            family = [list(reversed(lot)) for lot in books if lot in used]
            self.assertIs(journal.is_over(family), True)
            self.assertIs(journal.is_over(family + family[:1]), True)
            self.assertIs(journal.is_over(books), True)
            for gone in used:
                self.assertIs(journal.is_over([lot for lot in books if lot != gone]), False)
        self.assertIs(Journal(3, (0,), [("back", (), (0,))]).is_over([]), True)
        nothing = Journal(3, (0,), [("level", (), (0,))])
        self.assertEqual([nothing.is_over([(0, 1, 2)]), nothing.is_over([(0, 1)])], [True, False])

    def test_107_refused_families(self):
        journal = Journal(3, (0,), [GOOD])
        for family in NO_ROWS + ([(0,)] * 9,):
            refused(self, BadFamily(-1), journal.is_over, family)
        for lot in NO_ROWS + ((), [], (3,), (1, 1), (True,)):
            refused(self, BadFamily(1), journal.is_over, [(0,), lot, None])


class StoreTest(unittest.TestCase):
    def test_106_what_a_store_answers(self):
        for worlds in (1, 2, 3):
            deeds = all_deeds(worlds)
            rows = [()] + [(deed,) for deed in deeds] + list(itertools.product(deeds, repeat=2))[::3]
            rows = rows + [tuple(deeds_in(journal)) for journal in some_journals(worlds, 7, 40, 105)]
            ranks = ranks_of(worlds)
            for number, row in enumerate(rows):
                for rank in ranks[number % 3::3]:
                    answers, _ = store_behind(rank, row)
                    entries = tuple(deed + (answer,) for deed, answer in zip(row, answers))
                    journal = journal_of(rank, [[word, list(reversed(lot))] for word, lot in row])
                    self.assertEqual(journal, Journal(worlds, rank.held, entries))
                    self.assertIs(gives(rank, journal), True)

    def test_106_back(self):
        rank = Rank.strict((0, 1, 2))
        rows = [
            ([("back", ())], [(0,)]),
            ([("ask", (1, 2)), ("back", ())], [(1,), (0,)]),
            ([("lead", (2,)), ("back", ())], [(2,), (0,)]),
            ([("lead", (2,)), ("ask", (0, 1)), ("back", ())], [(2,), (0,), (0,)]),
            ([("lead", (2,)), ("push", (1,)), ("back", ()), ("back", ()), ("back", ())],
             [(2,), (1,), (2,), (0,), (0,)]),
            # A deed that turns nothing stands too: the first "back" ends it alone.
            ([("lead", (2,)), ("level", (1,)), ("back", ()), ("back", ())], [(2,), (2,), (2,), (0,)]),
            ([("lead", (2,)), ("sink", ()), ("back", ()), ("ask", (0, 1, 2))], [(2,), (2,), (2,), (2,)]),
        ]
        for deeds, answers in rows:
            self.assertEqual([answer for _, _, answer in journal_of(rank, deeds)], answers)

    def test_107_ranks_that_give_a_journal(self):
        seen = set()
        for journal in JOURNALS:
            told = [answer for _, _, answer in journal]
            for rank in ranks_of(journal.worlds)[::1 if journal.worlds < 4 else 7]:
                answers, _ = store_behind(rank, deeds_in(journal))
                right = rank.held == journal.beginning and answers == told
                self.assertIs(gives(rank, journal), right)
                seen.add(right)
        self.assertEqual(seen, {True, False})
        for worlds in (2, 4):
            refused(self, OtherWorlds(worlds), gives, Rank.flat(3), Journal(worlds, (0,)))

    def test_107_refused_deeds(self):
        rank = Rank.flat(3)
        for deeds in NO_ROWS:
            refused(self, BadDeed(-1), journal_of, rank, deeds)
        good = ("ask", (0, 1))
        wrong = NO_ROWS + ((), ("ask",), ("ask", (0,), (0,)), ("ask", ()), ("lead", []), ("push", ()), ("lean", ()))
        wrong = wrong + (("level", (0, 1, 2)), ("sink", (2, 1, 0)), ("back", (0,)), ("back", None), ("ask", (3,)))
        wrong = wrong + (("level", (0, 0)), ("lead", (True,)), ("lead", "0")) + tuple((word, (0,)) for word in NO_WORDS)
        for entry in wrong:
            refused(self, BadDeed(1), journal_of, rank, [good, entry, None])
        refused(self, TooMany(60), journal_of, rank, [good] * 61)
        refused(self, TooMany(60), journal_of, rank, [None] * 61)
        self.assertEqual(len(journal_of(rank, [good] * 60)), 60)

    def test_106_all_words_and_lots(self):
        for worlds in (1, 2, 3):
            for word in WORDS:
                for lot in lots_for(word, worlds):
                    journal = journal_of(Rank.flat(worlds), [(word, lot)])
                    self.assertEqual(journal.entries[0][:2], (word, lot))
        twelve = Rank.strict(tuple(range(12)))
        self.assertEqual(journal_of(twelve, [("lean", (11, 7))]).now, (7,))


if __name__ == "__main__":
    unittest.main()
