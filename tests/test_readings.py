"""Points 108 to 113, 116 and 118: journals read, the ranks that give them, and the reasons why none does."""

import itertools
import unittest

import plainreading
from helpers import NO_ROWS, books_of, holds, ranks_of
from newsbooks.cases import Told
from newsbooks.chains import ring_of
from newsbooks.comparisons import keeps
from newsbooks.folds import fold
from newsbooks.forms import Form
from newsbooks.journals import Journal, gives
from newsbooks.ranks import Rank
from newsbooks.readings import Reading, count_given, is_why, may_have_given, why_none
from stores import (
    WORDS, all_deeds, all_entries, deeds_in, given_by, journals_with_codes, short_journals, some_journals, store_behind)

JOURNALS = short_journals()[::3] + some_journals(2, 8, 60, 108) + some_journals(3, 7, 400, 108)
JOURNALS = JOURNALS + some_journals(3, 8, 100, 109, ("lean", "lean", "sink", "ask", "back"))
JOURNALS = JOURNALS + some_journals(4, 6, 40, 108) + journals_with_codes(3, 150, 110) + journals_with_codes(4, 60, 110)
SHORT = [journal for journal in JOURNALS if journal.worlds < 4]


def closes(steps):
    begins = [left for left, _, _ in steps]
    ends = [right for _, _, right in steps]
    strict = any(sign == "<" for _, sign, _ in steps)
    return strict and ends[-1:] + ends[:-1] == begins and len(set(begins)) == len(begins)


def journals_at_unlike_codes(worlds):
    """Journals, the shortest ones found, that lead to forms in which a block has unlike codes."""
    found = {}
    journals = journals_with_codes(worlds, 200, 108) + some_journals(worlds, 5, 150, 111, ("lean", "lead", "push"))
    for journal in journals:
        for many, form in enumerate(Reading(journal).forms):
            part = Journal(worlds, journal.beginning, journal.entries[:many])
            key = (form.blocks, part.now)
            if any(len(set(codes)) > 1 for _, _, codes in form.blocks):
                found[key] = min([part, found.get(key, part)], key=len)
    return list(found.values())


class ReadingTest(unittest.TestCase):
    def test_110_comparisons_checks_and_forms(self):
        fallen = 0
        for journal in JOURNALS:
            reading = Reading(journal)
            told, forms, place, _ = plainreading.read(journal)
            self.assertEqual(reading.comparisons, tuple(row for _, row in told), journal.entries)
            self.assertEqual(reading.sources, tuple(source for source, _ in told))
            self.assertEqual([form.blocks for form in reading.forms], forms)
            self.assertEqual(reading.fallen, place)
            self.assertEqual([reading.journal, reading.form], [journal, reading.forms[-1]])
            self.assertIsInstance(reading.forms, tuple)
            self.assertEqual(len(reading.forms), 1 + (len(journal) if place is None else place))
            fallen += place is not None
        self.assertGreater(fallen, 100)
        self.assertGreater(len(JOURNALS) - fallen, 100)

    def test_110_each_entry_at_forms_with_codes(self):
        sinks = set()
        three = [(journal, all_entries(3)) for journal in journals_at_unlike_codes(3)]
        four = [(journal, all_entries(4)[k % 40::40]) for k, journal in enumerate(journals_at_unlike_codes(4))]
        for journal, entries in three + four:
            for entry in entries:
                more = journal.with_entry(*entry)
                reading = Reading(more)
                told, forms, place, _ = plainreading.read(more)
                self.assertEqual(reading.comparisons, tuple(row for _, row in told), more.entries)
                self.assertEqual([reading.fallen, reading.form.blocks], [place, forms[-1]])
                if entry[0] == "sink" and place is None and set(journal.now) <= set(entry[1]):
                    sinks.update(step[1] for step in told if step[0] == len(journal))
        self.assertTrue({(1, "<", 2), (2, "<=", 1), (1, "<=", 2), (2, "<", 1)} <= sinks)

    def test_110_the_beginning(self):
        reading = Reading(Journal(4, (3, 1)))
        self.assertEqual(reading.comparisons, ((1, "<=", 3), (3, "<=", 1), (1, "<", 0), (1, "<", 2)))
        self.assertEqual([reading.sources, reading.fallen], [(-1,) * 4, None])
        self.assertEqual(reading.forms, (Form.at_start(4),))
        one = Reading(Journal(1, (0,)))
        self.assertEqual([one.comparisons, one.sources, one.fallen], [(), (), None])

    def test_110_deeds_that_turn_nothing(self):
        journal = Journal(3, (0,), [("level", (1,), (0,)), ("sink", (), (0,)), ("ask", (0, 1, 2), (0,))])
        reading = Reading(journal)
        self.assertEqual([reading.fallen, reading.forms], [None, (Form.at_start(3),) * 4])
        self.assertEqual(reading.sources, (-1, -1, 2, 2))
        for word, lot, wrong in (("level", (1,), (0, 1)), ("sink", (), (1,)), ("back", (), (1,))):
            self.assertEqual(Reading(Journal(3, (0,), [(word, lot, wrong)])).fallen, 0)

    def test_111_the_reading_ends_ahead_of_a_check_that_falls(self):
        entries = [("ask", (1, 2), (1,)), ("level", (1,), (1,)), ("ask", (0, 2), (0, 2)), ("lead", (2,), (1,))]
        reading = Reading(Journal(3, (0,), entries))
        self.assertEqual([reading.fallen, len(reading.forms)], [1, 2])
        self.assertEqual(reading.comparisons, ((0, "<", 1), (0, "<", 2), (1, "<", 2)))
        self.assertEqual(why_none(Journal(3, (0,), entries)), ("check", 1))

    def test_112_a_rank_gives_a_journal_exactly_if_no_check_falls_and_it_keeps_the_comparisons(self):
        for journal in JOURNALS:
            reading = Reading(journal)
            for rank in ranks_of(journal.worlds):
                right = reading.fallen is None and all(holds(rank.levels, row) for row in reading.comparisons)
                self.assertEqual(gives(rank, journal), right, (journal.entries, rank.cells))

    def test_112_the_form_means_the_present_store(self):
        for journal in JOURNALS:
            reading = Reading(journal)
            for many, form in enumerate(reading.forms):
                part = Journal(journal.worlds, journal.beginning, journal.entries[:many])
                for rank in given_by(part):
                    _, store = store_behind(rank, deeds_in(part.entries))
                    self.assertEqual(form.means(rank), store)
                    self.assertEqual(part.now, store.held)
                leans = [word for word, _, _ in part if word == "lean"]
                self.assertLessEqual(len(form.blocks), journal.worlds)
                codes = [code for _, _, codes in form.blocks for code in codes]
                self.assertLess(max(codes), 2 ** len(leans))
            self.assertLessEqual(len(reading.comparisons), (2 * journal.worlds - 2) * (len(journal) + 1))

    def test_112_sixty_entries_of_twelve_worlds(self):
        lots = [tuple(range(12)), (11, 5, 3), (0, 1), tuple(range(6))]
        deeds = [(WORDS[k % 6], lots[k % 4] if k % 6 not in (3, 4) else (k % 12,)) for k in range(60)]
        rank = Rank.of_levels((3, 3, 0, 1, 5, 1, 1, 2, 2, 0, 4, 4))
        answers, store = store_behind(rank, deeds)
        journal = Journal(12, rank.held, [deed + (answer,) for deed, answer in zip(deeds, answers)])
        reading = Reading(journal)
        self.assertEqual([reading.fallen, len(reading.forms), reading.form.means(rank)], [None, 61, store])
        self.assertTrue(keeps(rank, reading.comparisons))
        self.assertTrue(gives(may_have_given(journal), journal))


class GivenTest(unittest.TestCase):
    def test_113_some_rank_gives_a_journal_exactly_if_no_check_falls_and_there_is_no_ring(self):
        seen = set()
        for journal in JOURNALS:
            given = given_by(journal)
            reading = Reading(journal)
            ring = ring_of(journal.worlds, reading.comparisons)
            self.assertEqual(bool(given), reading.fallen is None and ring is None)
            least = may_have_given(journal)
            why = why_none(journal)
            self.assertEqual([least is None, why is None], [not given, bool(given)])
            seen.add((reading.fallen is None, ring is None))
            if given:
                self.assertIn(least, given)
                worlds = range(journal.worlds)
                self.assertTrue(all(least.levels[x] <= rank.levels[x] for rank in given for x in worlds))
            elif reading.fallen is not None:
                self.assertEqual(why, ("check", reading.fallen))
            else:
                self.check_ring(journal, reading, why, ring)
        self.assertEqual(len(seen), 4)

    def check_ring(self, journal, reading, why, ring):
        word, steps = why
        told = list(zip(reading.sources, reading.comparisons))
        self.assertEqual(word, "ring")
        self.assertTrue(all((step[0], step[1:]) in told for step in steps))
        self.assertTrue(closes([step[1:] for step in steps]))
        self.assertEqual(len(steps), len(ring))
        self.assertLessEqual(len(steps), journal.worlds)

    def test_113_reasons(self):
        for journal in SHORT[::2]:
            reading = Reading(journal)
            told = list(zip(reading.sources, reading.comparisons))
            why = why_none(journal)
            if why is not None:
                self.assertIs(is_why(journal, why), True)
                self.assertIs(is_why(journal, [why[0], why[1]]), True)
            for place in range(-1, len(journal) + 1):
                self.assertIs(is_why(journal, ("check", place)), place == reading.fallen)
            ring = ring_of(journal.worlds, reading.comparisons)
            if ring is not None:
                # A ring is a reason where a check falls, too.
                steps = [list((told[place][0],) + told[place][1]) for place in ring]
                self.assertIs(is_why(journal, ["ring", steps]), True)
                self.assertIs(is_why(journal, ("ring", tuple(steps[1:] + steps[:1]))), True)

    def test_113_all_rings_of_some_journals(self):
        for journal in SHORT[5::40]:
            reading = Reading(journal)
            told = [(source,) + row for source, row in zip(reading.sources, reading.comparisons)][:9]
            for many in range(journal.worlds + 1):
                for steps in itertools.product(told, repeat=many):
                    self.assertIs(is_why(journal, ("ring", steps)), closes([step[1:] for step in steps]))

    def test_113_what_is_no_reason(self):
        journal = Journal(3, (0,), [("ask", (1, 2), (1,)), ("ask", (2, 1), (2,)), ("back", (), (1,))])
        steps = [(0, 1, "<", 2), (1, 2, "<", 1)]
        self.assertIs(is_why(journal, ("ring", steps)), True)
        self.assertIs(is_why(journal, ("check", 2)), True)
        for why in NO_ROWS + ((), ("ring",), ("ring", steps, 0), ("check", 2, 0), (None, 2), (["check"], 2)):
            self.assertIs(is_why(journal, why), False)
        for place in NO_ROWS + (True, 2.0, "2", 1, 0, -1, (2,), [2], steps):
            self.assertIs(is_why(journal, ("check", place)), False)
        for wrong in NO_ROWS + ((), steps[:1], steps + steps, [steps], (steps[0], None), 2):
            self.assertIs(is_why(journal, ("ring", wrong)), False)
        for step in NO_ROWS + ((), (1, 2, "<"), (1, 2, "<", 1, 1), (True, 2, "<", 1), (1, 2, "<", True),
                               (0, 2, "<", 1), (1, 2, "<=", 1), (-1, 2, "<", 1), (1, 2, None, 1), (1.0, 2, "<", 1),
                               (2, 2, "<", 1), (1, 2, ["<"], 1), (1, "2", "<", 1)):
            self.assertIs(is_why(journal, ("ring", [steps[0], step])), False)
        for word in ("rings", "Ring", "", "check "):
            self.assertIs(is_why(journal, (word, steps)), False)
            self.assertIs(is_why(journal, (word, 2)), False)
        fine = Journal(3, (0,), [("ask", (1, 2), (1,))])
        for why in (("check", 0), ("check", None), ("check", -1), ("ring", ()), ("ring", steps), None):
            self.assertIs(is_why(fine, why), False)

    def test_113_rings_use_the_beginning(self):
        journal = Journal(2, (0,), [("lead", (1,), (1,)), ("back", (), (0,)), ("ask", (0, 1), (1,))])
        self.assertIs(is_why(journal, ("ring", [(-1, 0, "<", 1), (2, 1, "<", 0)])), True)
        word, steps = why_none(journal)
        self.assertEqual([word, sorted(steps)], ["ring", [(-1, 0, "<", 1), (2, 1, "<", 0)]])

    def test_116_counts(self):
        for journal in JOURNALS:
            self.assertEqual(count_given(journal), len(given_by(journal)))
        for journal in SHORT[::9]:
            for word, lot in all_deeds(journal.worlds)[::3]:
                more = [journal.with_entry(word, lot, answer) for answer in books_of(journal.worlds)]
                self.assertEqual(sum(map(count_given, more)), count_given(journal))

    def test_116_no_entries(self):
        self.assertEqual([count_given(Journal(3, held)) for held in books_of(3)], [3, 3, 3, 1, 1, 1, 1])
        self.assertEqual(count_given(Journal(12, tuple(range(12)))), 1)
        self.assertEqual(count_given(Journal(1, (0,), [("back", (), (0,))] * 60)), 1)


class BackTest(unittest.TestCase):
    def test_118_behind_back_the_form_is_as_ahead_of_the_deed(self):
        for journal in SHORT[::5]:
            if Reading(journal).fallen is None:
                for word in ("lead", "push", "lean", "level", "sink"):
                    _, lot = [deed for deed in all_deeds(journal.worlds) if deed[0] == word][-1]
                    for answer in books_of(journal.worlds):
                        there = journal.with_entry(word, lot, answer)
                        back = there.with_entry("ask", (0,), (0,)).with_entry("back", (), journal.now)
                        if Reading(there).fallen is None:
                            reading = Reading(back)
                            self.assertEqual([reading.form, back.now], [Reading(journal).form, journal.now])
                            self.assertEqual(reading.comparisons, Reading(there).comparisons)

    def test_118_neighbouring_asks_may_change_places(self):
        for journal in SHORT[::4]:
            rows = list(journal.entries)
            for place in range(len(rows) - 1):
                if rows[place][0] == rows[place + 1][0] == "ask":
                    other = rows[:place] + [rows[place + 1], rows[place]] + rows[place + 2:]
                    other = Journal(journal.worlds, journal.beginning, other)
                    self.assertEqual(given_by(other), given_by(journal))
                    self.assertEqual(count_given(other), count_given(journal))

    def test_118_asks_alone_are_told_cases(self):
        for journal in some_journals(3, 4, 60, 118, ("ask",)):
            cases = [(lot, answer) for _, lot, answer in journal if set(answer) <= set(lot)]
            whole = (tuple(range(3)), journal.beginning)
            if len(cases) == len(journal):
                told = Told(3, [whole] + cases)
                for rank in ranks_of(3):
                    self.assertEqual(gives(rank, journal), told.given_by(rank))

    def test_118_leads_and_asks_by_folds(self):
        for journal in some_journals(3, 5, 80, 119, ("lead", "ask")):
            cases = [((0, 1, 2), journal.beginning)]
            led = []
            for word, lot, answer in journal:
                folded, _ = fold(led, 3, lot)
                cases.append((folded, answer))
                led = led + [lot] if word == "lead" else led
            right = all(set(answer) <= set(lot) for lot, answer in cases)
            for rank in ranks_of(3):
                self.assertEqual(gives(rank, journal), right and Told(3, cases).given_by(rank))


if __name__ == "__main__":
    unittest.main()
