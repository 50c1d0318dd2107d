"""Points 112 to 115 and 196, as reasons: why a desk takes no entry, chains, why an answer is sure, and the listing."""

import itertools
import random
import unittest

from helpers import NO_INTEGERS, NO_ROWS, books_of, ranks_of, refused
from newsbooks.desks import Desk
from newsbooks.errors import BadDeed, BadFamily, BadLot, BadNews, BadNumber, NotSo, TooMany
from newsbooks.explaining import chain_for, listing, taken_reason, why_not_held, why_sure
from newsbooks.folds import fold, led_row
from newsbooks.journals import Journal
from newsbooks.keeping import least_rank
from newsbooks.ranks import Rank
from newsbooks.ranktexts import rank_text
from newsbooks.readings import Reading, is_why, steps_read, why_none
from stores import all_entries, given_by, journals_with_codes, some_journals
from test_desks import JOURNALS, desk_with, full_desk

CODED = [journal for journal in journals_with_codes(3, 60, 113) + some_journals(3, 6, 60, 113, ("lean", "lean", "ask"))
         if given_by(journal)]


def is_chain(steps, known, one, other):
    """Whether the steps are known ones that lead from one world to the other."""
    at = one
    for step in steps:
        if step not in known or step[1] != at:
            return False
        at = step[3]
    return at == other


def fewest(known, one, other, strict):
    """How many steps the shortest chain, or strict chain, has; None if there is none. A search from one."""
    seen = {(one, False): 0}
    queue = [(one, False)]
    for at, passed in queue:
        for _, x, sign, y in known:
            state = (y, passed or (strict and sign == "<"))
            if x == at and state not in seen:
                seen[state] = seen[(at, passed)] + 1
                queue.append(state)
    return seen.get((other, strict))


class WhyNotTest(unittest.TestCase):
    def test_196_what_telling_would_raise(self):
        seen = {True: 0, False: 0}
        for journal in JOURNALS[::7]:
            desk = desk_with(journal)
            for entry in all_entries(journal.worlds):
                later = journal.with_entry(*entry)
                found = why_not_held(desk, entry[0], list(reversed(entry[1])), list(entry[2]))
                self.assertEqual(found, why_none(later))
                self.assertIs(found is None, bool(given_by(later)))
                self.assertTrue(found is None or is_why(later, found))
                seen[found is None] += 1
            self.assertEqual(desk.journal_now, journal)
        self.assertGreater(min(seen.values()), 50)

    def test_197_the_other_errors_as_tell(self):
        desk = Desk(3, (0,), family=[(0, 1)])
        for entry in (("put", (0,), (0,)), ("ask", (), (0,)), ("back", (0,), (0,)), ("ask", (0, 1), ()), ("ask", (3,), (0,))):
            refused(self, BadDeed(0), why_not_held, desk, *entry)
            refused(self, BadDeed(0), why_not_held, full_desk(), *entry)
        refused(self, BadFamily(-1), why_not_held, desk, "ask", (0, 2), (0,))
        refused(self, BadFamily(-1), why_not_held, full_desk([(0, 1)]), "ask", (0, 2), (0,))
        refused(self, TooMany(60), why_not_held, full_desk([(0, 1)]), "ask", (0, 1), (1,))
        self.assertEqual(why_not_held(desk, "ask", (1, 0), (1,))[0], "ring")


class ChainsOfDesksTest(unittest.TestCase):
    def test_113_chains_with_the_fewest_comparisons(self):
        lengths = set()
        for journal in JOURNALS + CODED:
            desk, known = desk_with(journal), steps_read(Reading(journal))
            for one, other in itertools.product(range(journal.worlds), repeat=2):
                found = chain_for(desk, one, other)
                self.assertEqual(None if found is None else len(found), fewest(known, one, other, False))
                self.assertTrue(found is None or is_chain(found, known, one, other))
                if one == other:
                    self.assertEqual(found, ())
                lengths.add(found and len(found))
        self.assertTrue({None, 1, 2} <= lengths)
        desk = Desk(3, (0, 2))
        desk.tell("level", (0, 2), (0, 1, 2))
        self.assertEqual(chain_for(desk, 2, 1), ((-1, 2, "<=", 0), (-1, 0, "<", 1)))

    def test_113_wrong_worlds(self):
        for world in NO_INTEGERS + (3, -1):
            refused(self, BadNumber("one"), chain_for, Desk(3, (0,)), world, None)
            refused(self, BadNumber("other"), chain_for, Desk(3, (0,)), 1, world)


class WhySureTest(unittest.TestCase):
    def check(self, journal, lot):
        """The chains, by the words of the document. Returns which kinds of them there were."""
        desk = desk_with(journal)
        answer, found = desk.must("ask", lot), why_sure(desk, list(reversed(lot)))
        if answer is None:
            self.assertIsNone(found)
            return {"none"}
        reading = Reading(journal)
        known = steps_read(reading)
        block, live, codes = reading.form.blocks[reading.form.block_of(lot)]
        code = dict(zip(block, codes))
        least = answer[0]
        self.assertEqual([row[0] for row in found], [x for x in lot if x != least])
        kinds = set()
        for x, there, back in found:
            if not live or x not in block:
                self.assertEqual((there, back), ((), ()))
                kinds.add("flat" if not live else "behind")
                continue
            self.assertTrue(is_chain(there, known, least, x))
            if x in answer:
                self.assertTrue(is_chain(back, known, x, least))
                kinds.add("alike")
                continue
            self.assertEqual(back, ())
            strict = any(step[2] == "<" for step in there)
            self.assertTrue(strict or code[x] > code[least])
            kinds.add(("strict" if code[x] <= code[least] else "coded") + ("" if code[x] == code[least] else ", unlike"))
        return kinds

    def test_115_why_an_answer_must_come(self):
        kinds = set()
        for journal in JOURNALS + CODED:
            for lot in books_of(journal.worlds):
                kinds = kinds | self.check(journal, lot)
        self.assertEqual(kinds, {"none", "flat", "behind", "alike", "strict", "strict, unlike", "coded, unlike"})

    def test_115_one_world_alone_and_strict_chains(self):
        desk = Desk(3, (0,))
        self.assertEqual([why_sure(desk, (1,)), why_sure(desk, (2, 1))], [(), None])
        self.assertEqual(why_sure(desk, (0, 2)), ((2, ((-1, 0, "<", 2),), ()),))
        desk = Desk(4, (0,))
        desk.tell("ask", (1, 2), (1, 2))
        desk.tell("ask", (2, 3), (2,))
        self.assertEqual(why_sure(desk, (1, 3)), ((3, ((0, 1, "<=", 2), (1, 2, "<", 3)), ()),))
        self.assertEqual(why_sure(desk, (1, 2)), ((2, ((0, 1, "<=", 2),), ((0, 2, "<=", 1),)),))

    def test_115_a_strict_chain_where_a_shorter_one_is_not(self):
        desk = Desk(4, (0,))
        for entry in (("lean", (0, 1, 3), (0,)), ("ask", (1, 2), (1,)), ("back", (), (0,)), ("ask", (1, 3), (1,)),
                      ("ask", (2, 3), (2, 3))):
            desk.tell(*entry)
        self.assertEqual(chain_for(desk, 1, 2), ((1, 1, "<=", 2),))
        self.assertEqual(why_sure(desk, (1, 2)), ((2, ((3, 1, "<", 3), (4, 3, "<=", 2)), ()),))

    def test_115_errors_as_must(self):
        desk = Desk(3, (0,), family=[(0, 1)])
        for lot, place in (((), -1), (None, -1), ((3,), 0), ((0, 0), 1)):
            refused(self, BadLot(place), why_sure, desk, lot)
            refused(self, BadLot(place), why_sure, full_desk(), lot)
        refused(self, BadFamily(-1), why_sure, desk, (0, 2))
        refused(self, BadFamily(-1), why_sure, full_desk([(0, 1)]), (0, 2))
        refused(self, TooMany(60), why_sure, full_desk([(0, 1)]), (0, 1))


class TakenReasonTest(unittest.TestCase):
    def test_098_what_is_held_and_the_news_taken_for_it(self):
        chance = random.Random(98)
        for rank in ranks_of(1) + ranks_of(3) + ranks_of(4)[::9]:
            for _ in range(6):
                news = [chance.choice(books_of(rank.worlds)) for _ in range(chance.randint(0, 5))]
                held, places = taken_reason(rank, [list(reversed(piece)) for piece in news])
                self.assertEqual(held, led_row(rank, news).held)
                self.assertEqual(places, fold(news, rank.worlds, tuple(range(rank.worlds)))[1])
                part = set(range(rank.worlds)).intersection(*[news[place] for place in places])
                self.assertEqual(held, rank.best(tuple(part)))
        self.assertEqual(taken_reason(Rank.strict((0, 1, 2)), [(2,), (0, 2), (1,)]), ((1,), (2,)))
        self.assertEqual(taken_reason(Rank.flat(2), []), ((0, 1), ()))

    def test_098_wrong_news(self):
        rank = Rank.flat(3)
        for news in NO_ROWS:
            refused(self, BadNews(-1), taken_reason, rank, news)
        for news, place in (([()], 0), ([(0,), (3,)], 1), ([(0, 0)], 0)):
            refused(self, BadNews(place), taken_reason, rank, news)
        refused(self, TooMany(20), taken_reason, rank, [(0,)] * 21)
        self.assertEqual(taken_reason(rank, [(1, 2)] * 20)[1], tuple(range(20)))


class ListingTest(unittest.TestCase):
    def words(self, lot):
        return " ".join(map(str, lot)) or "-"

    def test_201_lines_of_a_desk(self):
        for journal in JOURNALS + CODED[::5]:
            desk = desk_with(journal)
            lines = ["held " + self.words(journal.beginning)]
            for place, (word, lot, answer) in enumerate(journal.entries):
                lines.append("%4d %s %s -> %s" % (place, word, self.words(lot), self.words(answer)))
            least = least_rank(journal.worlds, Reading(journal).comparisons)
            self.assertEqual(listing(desk), tuple(lines + ["least " + rank_text(least)]))

    def test_201_examples(self):
        desk = Desk(3, (0, 2))
        desk.tell("level", (0, 2), (0, 1, 2))
        self.assertEqual(listing(desk), ("held 0 2", "   0 level 0 2 -> 0 1 2", "least 0 2 | 1"))
        desk.tell("back", (), (0, 2))
        desk.tell("sink", (), (0, 2))
        self.assertEqual(listing(desk)[2:4], ("   1 back - -> 0 2", "   2 sink - -> 0 2"))
        twelve = Desk(12, tuple(range(12)))
        for _ in range(11):
            twelve.tell("ask", (11, 2), (2, 11))
        self.assertEqual(listing(twelve)[11], "  10 ask 2 11 -> 2 11")
        self.assertEqual(listing(twelve)[-1], "least 0 1 2 3 4 5 6 7 8 9 10 11")
        refused(self, NotSo(("check", 11)), twelve.tell, "sink", (), (1,))
        self.assertEqual(listing(Desk(1, (0,))), ("held 0", "least 0"))


if __name__ == "__main__":
    unittest.main()
