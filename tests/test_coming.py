"""Points 114 and 115: answers that can come to one more deed, and those that must."""

import unittest

from helpers import NO_INTEGERS, NO_ROWS, books_of, lot_key, refused
from newsbooks.chains import Chains
from newsbooks.coming import can_come, come_all, come_some, must_come, why_not
from newsbooks.errors import BadDeed, BadLot, BadWord, TooMany
from newsbooks.journals import Journal
from newsbooks.readings import Reading, is_why, why_none
from stores import (
    NO_WORDS, WORDS, all_deeds, all_entries, deeds_in, given_by, journals_with_codes, lots_for, short_journals,
    some_journals, store_behind)

JOURNALS = short_journals()[::41] + some_journals(2, 6, 30, 114) + some_journals(3, 5, 120, 114)
JOURNALS = JOURNALS + some_journals(3, 5, 60, 115, ("lean", "lean", "lead", "ask")) + journals_with_codes(3, 80, 114)
FOURS = some_journals(4, 4, 12, 114) + journals_with_codes(4, 12, 115)

TWELVE = tuple(range(12))
ELEVEN = tuple(range(11))
NO_RANK = Journal(3, (0,), [("ask", (0, 1), (1,))])
RING = Journal(3, (0,), [("ask", (1, 2), (1,)), ("ask", (1, 2), (2,))])
FALLEN = Journal(3, (0,), [("ask", (1, 2), (1,)), ("level", (1,), (1,))])


def coming(journal):
    """The stores of all ranks that give the journal, as pairs of a rank and the deeds so far."""
    return [(rank, deeds_in(journal)) for rank in given_by(journal)]


def answers_to(stores, word, lot):
    """The answers of the stores to one more deed, in lot order."""
    found = {store_behind(rank, deeds + [(word, lot)])[0][-1] for rank, deeds in stores}
    return tuple(sorted(found, key=lot_key))


class ComingTest(unittest.TestCase):
    def test_114_answers_that_can_come(self):
        none = 0
        for journal in JOURNALS + FOURS:
            stores = coming(journal)
            none += not stores
            for word, lot in all_deeds(journal.worlds)[::1 if journal.worlds < 4 else 5]:
                wanted = answers_to(stores, word, lot)
                turned_lot = list(reversed(lot))
                self.assertEqual(can_come(journal, word, turned_lot), wanted, (journal.entries, word, lot))
                self.assertEqual(must_come(journal, word, turned_lot), wanted[0] if len(wanted) == 1 else None)
        self.assertGreater(none, 20)

    def test_114_an_answer_can_come_exactly_if_some_rank_gives_the_journal_with_it(self):
        for journal in JOURNALS[::6]:
            for word, lot in all_deeds(journal.worlds):
                answers = can_come(journal, word, lot)
                for answer in books_of(journal.worlds):
                    why = why_not(journal, word, lot, answer)
                    self.assertEqual(answer in answers, why is None)
                    self.assertEqual(why, why_none(journal.with_entry(word, lot, answer)))
                    if why is not None:
                        self.assertTrue(is_why(journal.with_entry(word, lot, answer), why))

    def test_115_worlds_that_are_in_answers(self):
        for journal in JOURNALS + FOURS:
            stores = coming(journal)
            for lot in books_of(journal.worlds):
                answers = answers_to(stores, "ask", lot)
                some = tuple(x for x in lot if any(x in answer for answer in answers))
                every = tuple(x for x in lot if answers and all(x in answer for answer in answers))
                self.assertEqual(come_some(journal, list(reversed(lot))), some)
                self.assertEqual(come_all(journal, list(reversed(lot))), every)

    def test_115_what_must_come_by_chains(self):
        for journal in JOURNALS[::3]:
            reading = Reading(journal)
            chains = Chains(journal.worlds, reading.comparisons)
            if reading.fallen is not None or chains.torn:
                continue
            for lot in books_of(journal.worlds):
                block, live, codes = reading.form.blocks[reading.form.block_of(lot)]
                part = {x: code for x, code in zip(block, codes) if x in lot}
                for best in books_of(journal.worlds):
                    if live and set(best) <= set(part) and len({part[x] for x in best}) == 1:
                        code = part[best[0]]
                        right = all(chains.reaches(x, y) for x in best for y in best)
                        for z in set(part) - set(best):
                            right = right and any(chains.reaches(x, z) for x in best)
                            if part[z] <= code:
                                right = right and any(chains.strictly(x, z) for x in best)
                        self.assertEqual(must_come(journal, "ask", lot) == best, right)

    def test_114_answers_of_each_word(self):
        journal = Journal.begin(3, (0,))
        parts = ((1,), (2,), (1, 2))
        for word in ("lead", "push", "lean", "ask"):
            self.assertEqual(can_come(journal, word, (1, 2)), parts)
            self.assertEqual(must_come(journal, word, (0, 2)), (0,))
        self.assertEqual(can_come(journal, "level", (0,)), ((0, 1), (0, 2), (0, 1, 2)))
        self.assertEqual(can_come(journal, "level", (1,)), ((0,),))
        self.assertEqual(can_come(journal, "sink", (0, 1)), ((0, 2), (0, 1, 2)))
        self.assertEqual(can_come(journal, "sink", ()), ((0,),))
        self.assertEqual([can_come(journal, "back", ()), must_come(journal, "back", ())], [((0,),), (0,)])
        later = journal.with_entry("lead", (1, 2), (2,))
        self.assertEqual([must_come(later, "back", ()), must_come(later, "ask", (0, 1, 2))], [(0,), (2,)])

    def test_114_where_no_rank_gives_the_journal(self):
        for journal in (NO_RANK, RING, FALLEN):
            for word, lot in all_deeds(3):
                self.assertEqual([can_come(journal, word, lot), must_come(journal, word, lot)], [(), None])
            for lot in books_of(3):
                self.assertEqual([come_some(journal, lot), come_all(journal, lot)], [(), ()])

    def test_114_sixty_entries(self):
        full = Journal(3, (0,), [("ask", (0, 1), (0,))] * 60)
        empty = Journal(12, TWELVE, [("ask", (0, 1), (0,))] * 60)
        for word, lot in all_deeds(3):
            refused(self, TooMany(60), can_come, full, word, lot)
            refused(self, TooMany(60), must_come, full, word, lot)
        for word in ("ask", "lead"):
            refused(self, TooMany(60), can_come, empty, word, TWELVE)
        refused(self, TooMany(60), come_some, full, (0,))
        refused(self, TooMany(60), come_all, full, (0,))
        refused(self, TooMany(60), why_not, full, "ask", (0,), (0,))
        refused(self, TooMany(60), why_not, full, "no word", (0,), (0,))
        almost = Journal(3, (0,), full.entries[:59])
        self.assertEqual(can_come(almost, "ask", (1, 2)), ((1,), (2,), (1, 2)))
        self.assertEqual([come_some(almost, (1, 2)), come_all(almost, (0, 2))], [(1, 2), (0,)])
        self.assertIsNone(why_not(almost, "ask", (0,), (0,)))

    def test_114_more_than_ten_worlds(self):
        for journal in (Journal.begin(12, (3,)), Journal(12, (3,), [("ask", (3, 4), (4,))])):
            for word in ("lead", "push", "lean", "ask"):
                for lot in (ELEVEN, TWELVE):
                    refused(self, TooMany(10), can_come, journal, word, lot)
            refused(self, TooMany(10), can_come, journal, "level", ())
            refused(self, TooMany(10), can_come, journal, "level", (3,))
            for lot in ((), (3,), ELEVEN):
                refused(self, TooMany(10), can_come, journal, "sink", lot)
        journal = Journal.begin(12, (3,))
        self.assertEqual(len(can_come(journal, "ask", TWELVE[:3] + TWELVE[5:])), 1023)
        self.assertEqual(can_come(journal, "ask", TWELVE[:10]), ((3,),))
        self.assertEqual(len(can_come(journal, "level", (3, 4))), 1023)
        self.assertEqual(can_come(journal, "level", (4, 5)), ((3,),))
        self.assertEqual(can_come(journal, "back", ()), ((3,),))
        refused(self, TooMany(10), can_come, Journal.begin(11, (3,)), "sink", (0,))
        ten = Journal.begin(10, (3,))
        self.assertEqual(len(can_come(ten, "sink", (1, 2, 3))), 4 * 127)
        self.assertEqual(can_come(ten, "sink", (1, 2)), ((3,),))

    def test_115_more_than_ten_worlds(self):
        journal = Journal.begin(12, (3, 5))
        for word in ("lead", "push", "lean", "ask"):
            self.assertEqual([must_come(journal, word, TWELVE), must_come(journal, word, ELEVEN)], [(3, 5)] * 2)
            self.assertIsNone(must_come(journal, word, TWELVE[:3] + TWELVE[6:]))
        self.assertEqual([must_come(journal, "sink", ()), must_come(journal, "level", ())], [(3, 5)] * 2)
        self.assertIsNone(must_come(journal, "sink", ELEVEN))
        self.assertEqual(must_come(journal, "level", ELEVEN), (3, 5, 11))
        self.assertEqual([come_some(journal, TWELVE), come_all(journal, ELEVEN)], [(3, 5)] * 2)
        self.assertEqual([come_some(journal, (1, 2)), come_all(journal, (1, 2))], [(1, 2), ()])
        known = Journal(12, (0,), [("ask", tuple(range(k, 12)), (k,)) for k in range(1, 11)])
        self.assertEqual(must_come(known, "sink", (0, 1, 2, 11)), (0, 1, 2, 3))

    def test_114_refused_words(self):
        full = Journal(3, (0,), [("ask", (0, 1), (0,))] * 60)
        for journal in (Journal.begin(3, (0,)), NO_RANK, full):
            for word in NO_WORDS:
                refused(self, BadWord(word), can_come, journal, word, "no lot")
                refused(self, BadWord(word), must_come, journal, word, "no lot")

    def test_114_refused_lots(self):
        full = Journal(3, (0,), [("ask", (0, 1), (0,))] * 60)
        for journal in (Journal.begin(3, (0,)), NO_RANK, full):
            calls = [(lambda lot, word=word: can_come(journal, word, lot), word) for word in WORDS]
            calls = calls + [(lambda lot, word=word: must_come(journal, word, lot), word) for word in WORDS]
            calls = calls + [(lambda lot: come_some(journal, lot), "ask"), (lambda lot: come_all(journal, lot), "ask")]
            for call, word in calls:
                wrong = [lot for lot in [(), (1,), (0, 1, 2)] if lot not in lots_for(word, 3)]
                for lot in NO_ROWS + tuple(wrong):
                    refused(self, BadLot(-1), call, lot)
                for entry in NO_INTEGERS + (3, -1, 2):
                    refused(self, BadLot(1), call, [2, entry, 0])

    def test_114_refused_entries(self):
        for journal in (Journal.begin(3, (0,)), RING, FALLEN):
            for entry in ((None, (0,), (0,)), ("put", (0,), (0,)), ("ask", (), (0,)), ("back", (0,), (0,)),
                          ("level", (0, 1, 2), (0,)), ("ask", (0,), ()), ("ask", (0,), (3,)), ("ask", (0,), None)):
                refused(self, BadDeed(len(journal)), why_not, journal, *entry)
        self.assertEqual(why_not(RING, "ask", (0,), (0,)), why_none(RING))
        self.assertEqual(why_not(NO_RANK, "ask", (0,), (0,))[0], "ring")
        self.assertEqual(why_not(FALLEN, "ask", (0,), (0,)), ("check", 1))

    def test_114_one_world(self):
        journal = Journal.begin(1, (0,))
        for word, lot, _ in all_entries(1):
            self.assertEqual([can_come(journal, word, lot), must_come(journal, word, lot)], [((0,),), (0,)])
        self.assertEqual([come_some(journal, (0,)), come_all(journal, [0])], [(0,), (0,)])


if __name__ == "__main__":
    unittest.main()
