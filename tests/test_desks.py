"""Points 196 to 201: desks, which keep a journal that some rank gives."""

import itertools
import random
import unittest

from helpers import NO_INTEGERS, NO_ROWS, books_of, classes_in, lots_of, ranks_of, refused
from newsbooks.coming import can_come, come_all, come_some, must_come
from newsbooks.desks import Desk, Trial, desk_of, remade, trial_of
from newsbooks.errors import BadDeed, BadFamily, BadLot, BadNumber, BadWord, NotSo, OtherWorlds, TooMany
from newsbooks.fewasks import asks_for
from newsbooks.journals import Journal, journal_of
from newsbooks.narrowing import Narrowing, is_whole, met
from newsbooks.parting import joined_rank, joined_ring, narrowed_journal
from newsbooks.ranks import Rank
from newsbooks.readings import may_have_given, why_none
from stores import (
    NO_WORDS, WORDS, all_deeds, all_entries, deeds_in, given_by, lots_for, some_journals, store_behind)

TWELVE = tuple(range(12))


def desk_with(journal, family=None):
    """A desk that was told the entries of the journal."""
    desk = Desk(journal.worlds, journal.beginning, family=family)
    for entry in journal.entries:
        desk.tell(*entry)
    return desk


def given_journals(worlds, most, many, seed):
    return [journal for journal in some_journals(worlds, most, many, seed) if given_by(journal)]


JOURNALS = [Journal.begin(worlds, held) for worlds in (1, 2) for held in books_of(worlds)]
JOURNALS = JOURNALS + given_journals(2, 5, 20, 196) + given_journals(3, 5, 60, 196)


def full_desk(family=None):
    """A desk of three worlds with 60 entries."""
    return desk_with(Journal(3, (0,), [("ask", (0, 1), (0,))] * 60), family)


def state(desk):
    return (desk.worlds, desk.family, desk.journal_now, desk.told_held, desk.entries_left)


class DesksTest(unittest.TestCase):
    def test_196_what_a_desk_tells_of_itself(self):
        for journal in JOURNALS:
            desk = desk_with(journal)
            self.assertEqual(state(desk), (journal.worlds, None, journal, journal.now, 60 - len(journal)))
            self.assertEqual(desk.least(), may_have_given(journal))
            self.assertEqual(desk.ranks_left(), len(given_by(journal)))
        desk = Desk(3, [2, 0], family=[[1, 0], (2,), [0, 1]])
        self.assertEqual([desk.family, desk.told_held, desk.journal_now], [((0, 1), (2,), (0, 1)), (0, 2),
                                                                           Journal(3, (0, 2))])
        self.assertIsNone(desk.tell("ask", [1, 0], [0]))

    def test_196_an_entry_is_told_exactly_if_some_rank_gives_the_journal_with_it(self):
        seen = {True: 0, False: 0}
        for journal in JOURNALS[::4]:
            for entry in all_entries(journal.worlds):
                later = journal.with_entry(*entry)
                desk, able = desk_with(journal), bool(given_by(later))
                seen[able] += 1
                turned = (entry[0], list(reversed(entry[1])), list(reversed(entry[2])))
                if able:
                    desk.tell(*turned)
                    self.assertEqual(desk.journal_now, later)
                else:
                    refused(self, NotSo(why_none(later)), desk.tell, *turned)
                    self.assertEqual(state(desk), state(desk_with(journal)))
        self.assertGreater(min(seen.values()), 100)

    def test_196_examples(self):
        desk = Desk(3, (0,))
        first = [desk.could("push", (1, 2)), desk.must("push", (1, 2)), desk.ranks_left()]
        self.assertEqual(first, [((1,), (2,), (1, 2)), None, 3])
        desk.tell("push", (1, 2), (2,))
        refused(self, NotSo(("check", 1)), desk.tell, "ask", (0, 2), (0,))
        self.assertEqual([desk.told_held, desk.must("ask", (0, 1)), desk.ranks_left()], [(2,), (0,), 1])

    def test_196_wrong_beginnings(self):
        for worlds in NO_INTEGERS + (0, 13):
            refused(self, BadNumber("worlds"), Desk, worlds, None, family=3)
        for held, place in (((), -1), (None, -1), ((3,), 0), ((0, 0), 1)):
            refused(self, BadLot(place), Desk, 3, held, family=3)
        for family in tuple(value for value in NO_ROWS if value is not None) + ([(0,)] * 9,):
            refused(self, BadFamily(-1), Desk, 3, (0,), family=family)
        for family, place in (([()], 0), ([(0,), (3,)], 1), ([(1, 1)], 0), ([(0,), None], 1)):
            refused(self, BadFamily(place), Desk, 3, (0,), family=family)

    def test_196_families(self):
        """With a family each deed outside of it is refused, told or asked about, and each other one is as without."""
        for family in ([], [(0, 1)], [(1, 2), (0,), (0, 1)], [(0, 1, 2), (2,)], [(2,), (0, 2), (2,)]):
            desk, free = Desk(3, (0,), family=family), Desk(3, (0,))
            for word, lot in all_deeds(3):
                needed = tuple(x for x in range(3) if x not in lot) if word in ("level", "sink") else lot
                if word == "back" or needed in family:
                    self.assertEqual([desk.could(word, lot), desk.must(word, lot)], [free.could(word, lot), free.must(word, lot)])
                    with Trial(desk) as twin:
                        twin.tell(word, lot, twin.could(word, lot)[0])
                        self.assertTrue(twin.journal_now.is_over(family))
                    continue
                for call, more in ((desk.could, ()), (desk.must, ()), (desk.tell, ((0,),))):
                    refused(self, BadFamily(-1), call, word, lot, *more)
                refused(self, BadFamily(-1), desk.what_if, [], word, lot)
                refused(self, BadFamily(-1), desk.what_if, [(word, lot, (1,))], "back", ())
                refused(self, BadFamily(-1), trial_of, desk, [(word, lot, (1,))])
                if word == "ask":
                    refused(self, BadFamily(-1), desk.some, lot)
                    refused(self, BadFamily(-1), desk.sure, lot)
            self.assertEqual(len(desk.journal_now), 0)


class DeskErrorsTest(unittest.TestCase):
    def test_197_entries_are_refused_ahead_of_all_else(self):
        entries = [(word, (0,), (0,)) for word in NO_WORDS]
        entries += [("lead", (), (0,)), ("ask", (), (0,)), ("level", (0, 1, 2), (0,)), ("back", (0,), (0,)),
                    ("push", (3,), (0,)), ("lean", None, (0,)), ("ask", (0,), ()), ("ask", (0,), (3,)), ("ask", (0,), None)]
        for desk in (Desk(3, (0,)), Desk(3, (0,), family=[]), full_desk()):
            before = state(desk)
            for entry in entries:
                refused(self, BadDeed(0), desk.tell, *entry)
                refused(self, BadDeed(0), trial_of, desk, [entry])
                refused(self, BadDeed(1), trial_of, desk, [("ask", (1, 2), (1,)), entry])
                refused(self, BadDeed(1), desk.what_if, [("ask", (1, 2), (1,)), entry], None, None)
            for value in NO_ROWS:
                refused(self, BadDeed(-1), trial_of, desk, value)
                refused(self, BadDeed(-1), desk.what_if, value, None, None)
            for value in ((), ("ask",), ("ask", (0,)), ("ask", (0,), (0,), 1), None, 3):
                refused(self, BadDeed(0), trial_of, desk, [value])
            refused(self, TooMany(60), trial_of, desk, [None] * 61)
            refused(self, TooMany(60), desk.what_if, [None] * 61, None, None)
            self.assertEqual(state(desk), before)

    def test_197_deeds_asked_about(self):
        for desk in (Desk(3, (0,)), Desk(3, (0,), family=[]), full_desk(), full_desk([(0, 1)])):
            for word in NO_WORDS:
                refused(self, BadWord(word), desk.could, word, None)
                refused(self, BadWord(word), desk.must, word, None)
                refused(self, BadWord(word), desk.what_if, [], word, None)
            for word in WORDS:
                for lot in NO_ROWS + tuple(lot for lot in [(), (1,), (0, 1, 2)] if lot not in lots_for(word, 3)):
                    for call in (desk.could, desk.must, lambda *deed: desk.what_if((), *deed)):
                        refused(self, BadLot(-1), call, word, lot)
            for lot, place in (((), -1), (None, -1), ((3,), 0), ((0, 0), 1)):
                refused(self, BadLot(place), desk.some, lot)
                refused(self, BadLot(place), desk.sure, lot)

    def test_197_sixty_entries_and_one_more(self):
        desk = full_desk()
        self.assertEqual([desk.entries_left, len(desk.journal_now)], [0, 60])
        for entry in (("ask", (0, 1), (0,)), ("ask", (0, 1), (1,)), ("back", (), (2,))):
            refused(self, TooMany(60), desk.tell, *entry)
            refused(self, TooMany(60), trial_of, desk, [entry])
        for call in (desk.could, desk.must, lambda *deed: desk.what_if((), *deed)):
            refused(self, TooMany(60), call, "ask", (0, 1))
        refused(self, TooMany(60), desk.some, (0, 1))
        refused(self, TooMany(60), desk.sure, (0, 1))
        over = full_desk([(0, 1)])
        for call, more in ((over.could, ()), (over.must, ()), (over.tell, ((0,),))):
            refused(self, BadFamily(-1), call, "ask", (0, 2), *more)
            refused(self, TooMany(60), call, "ask", (0, 1), *more)
        refused(self, BadFamily(-1), over.what_if, [], "ask", (0, 2))
        refused(self, BadFamily(-1), over.some, (0, 2))
        self.assertEqual(desk.take_back(), ("ask", (0, 1), (0,)))
        self.assertEqual([desk.entries_left, desk.must("ask", (0, 1)), desk.some((1, 2))], [1, (0,), (1, 2)])
        self.assertEqual(desk.what_if([], "ask", (0, 1)), ("must", (0,)))
        refused(self, TooMany(60), desk.what_if, [("ask", (0, 1), (1,))], "ask", (0, 1))
        desk.tell("ask", (0, 1), (0,))
        self.assertEqual(len(desk.journal_now), 60)

    def test_197_many_worlds(self):
        desk = Desk(12, TWELVE)
        for call in (desk.could, lambda *deed: desk.what_if((), *deed)):
            self.assertIn(call("ask", (0, 1)), (((0, 1),), ("must", (0, 1))))
        refused(self, TooMany(10), desk.could, "ask", TWELVE)
        self.assertEqual([desk.must("ask", TWELVE), desk.what_if([], "ask", TWELVE)], [TWELVE, ("must", TWELVE)])
        self.assertEqual([desk.some(TWELVE), desk.sure(TWELVE)], [TWELVE, TWELVE])
        refused(self, TooMany(6), desk.ranks_left)
        refused(self, TooMany(6), Desk(7, (0,)).ranks_left)
        self.assertEqual([Desk(6, tuple(range(6))).ranks_left(), Desk(6, (0,)).ranks_left()], [1, 541])
        self.assertEqual(desk.least(), Rank.flat(12))

    def test_197_assigning_to_entries_left(self):
        for desk in (Desk(3, (0,)), full_desk()):
            before = state(desk)
            for value in (0, 60, None, 59, "x"):
                refused(self, BadWord("entries_left"), setattr, desk, "entries_left", value)
            self.assertEqual(state(desk), before)


class AnswersTest(unittest.TestCase):
    def test_198_answers_that_can_be_told(self):
        for journal in JOURNALS:
            desk, ranks = desk_with(journal), given_by(journal)
            for word, lot in all_deeds(journal.worlds):
                able = desk.could(word, list(reversed(lot)))
                self.assertEqual(able, can_come(journal, word, lot))
                must = desk.must(word, list(reversed(lot)))
                self.assertEqual(must, must_come(journal, word, lot))
                for rank in ranks:
                    answer = store_behind(rank, deeds_in(journal) + [(word, lot)])[0][-1]
                    self.assertIn(answer, able)
                    self.assertTrue(must is None or must == answer)
                if word == "ask":
                    self.assertEqual([desk.some(list(lot)), desk.sure(list(lot))],
                                     [come_some(journal, lot), come_all(journal, lot)])

    def test_198_ranks_left_add_up(self):
        for journal in JOURNALS[::3]:
            desk = desk_with(journal)
            for word, lot in all_deeds(journal.worlds)[::2]:
                able, counts = desk.could(word, lot), []
                for answer in books_of(journal.worlds):
                    with Trial(desk) as twin:
                        if answer in able:
                            twin.tell(word, lot, answer)
                            counts.append(twin.ranks_left())
                        else:
                            why = why_none(journal.with_entry(word, lot, answer))
                            refused(self, NotSo(why), twin.tell, word, lot, answer)
                self.assertEqual(sum(counts), desk.ranks_left())
                self.assertTrue(all(counts))

    def test_198_what_if(self):
        seen = {"not so": 0, "must": 0, "open": 0}
        chance = random.Random(198)
        for journal in JOURNALS[::2]:
            desk = desk_with(journal)
            entries = all_entries(journal.worlds)
            for word, lot in all_deeds(journal.worlds)[::2]:
                row = [chance.choice(entries) for _ in range(chance.choice((0, 0, 1, 2)))]
                later = Journal(journal.worlds, journal.beginning, journal.entries + tuple(row))
                why = why_none(later)
                if why is not None:
                    wanted = ("not so", why)
                elif must_come(later, word, lot) is not None:
                    wanted = ("must", must_come(later, word, lot))
                else:
                    wanted = ("open", can_come(later, word, lot))
                turned = [[name, list(reversed(one)), list(other)] for name, one, other in row]
                self.assertEqual(desk.what_if(turned, word, list(reversed(lot))), wanted)
                seen[wanted[0]] += 1
            self.assertEqual(desk.journal_now, journal)
        self.assertGreater(min(seen.values()), 10)

    def test_198_what_if_of_many_worlds(self):
        desk = Desk(12, (3,))
        refused(self, TooMany(10), desk.what_if, [], "ask", TWELVE[4:] + (0, 1, 2))
        self.assertEqual(desk.what_if([], "ask", TWELVE), ("must", (3,)))
        self.assertEqual(desk.what_if([("ask", (3, 4), (4,))], "ask", TWELVE[4:] + (0, 1, 2)),
                         ("not so", why_none(Journal(12, (3,), [("ask", (3, 4), (4,))]))))
        self.assertEqual(len(desk.what_if([], "ask", TWELVE[4:] + (0, 1))[1]), 1023)
        self.assertEqual(desk.journal_now, Journal(12, (3,)))


class TakingBackTest(unittest.TestCase):
    def test_199_the_last_entry_taken_out(self):
        for journal in JOURNALS:
            desk = desk_with(journal)
            for place in range(len(journal) - 1, -1, -1):
                self.assertEqual(desk.take_back(), journal.entries[place])
                first = Journal(journal.worlds, journal.beginning, journal.entries[:place])
                self.assertEqual(state(desk), state(desk_with(first)))
            self.assertIsNone(desk.take_back())
            self.assertEqual(desk.journal_now, Journal(journal.worlds, journal.beginning))
            for entry in journal.entries:
                desk.tell(*entry)
            self.assertEqual(desk.journal_now, journal)

    def test_199_the_deed_back_is_an_entry(self):
        desk = Desk(3, (0,))
        desk.tell("push", (1, 2), (2,))
        desk.tell("back", (), (0,))
        self.assertEqual([len(desk.journal_now), desk.told_held, desk.ranks_left()], [2, (0,), 1])
        self.assertEqual([desk.take_back(), desk.told_held], [("back", (), (0,)), (2,)])
        self.assertEqual([desk.take_back(), desk.told_held, desk.ranks_left()], [("push", (1, 2), (2,)), (0,), 3])

    def test_199_remade_and_tried(self):
        family = [(0, 1), (1, 2), (0, 2)]
        for journal in JOURNALS[::3]:
            desk = desk_with(journal)
            for twin in (remade(desk), trial_of(desk, ()), trial_of(desk, [])):
                self.assertEqual(state(twin), state(desk))
                self.assertIs(twin.same_as(desk), True)
                twin.take_back()
                twin.tell("ask", tuple(range(journal.worlds)), twin.told_held)
                self.assertEqual(desk.journal_now, journal)
            kept = trial_of(desk, ())
            desk.tell("ask", tuple(range(journal.worlds)), desk.told_held)
            self.assertEqual(kept.journal_now, journal)
        desk = Desk(3, (0,), family=family)
        desk.tell("lead", (1, 2), (2,))
        for twin in (remade(desk), trial_of(desk, [("ask", (0, 1), (1,))])):
            self.assertEqual(twin.family, ((0, 1), (1, 2), (0, 2)))
            refused(self, BadFamily(-1), twin.tell, "ask", (0,), (0,))

    def test_199_trials(self):
        desk = Desk(3, (0,))
        twin = trial_of(desk, [["push", [2, 1], [2]], ("ask", (0, 1), (0,))])
        self.assertEqual([len(twin.journal_now), len(desk.journal_now)], [2, 0])
        refused(self, NotSo(("check", 1)), trial_of, desk, [("push", (1, 2), (2,)), ("ask", (0, 2), (0,))])
        refused(self, NotSo(("check", 1)), trial_of, Desk(3, (0,), family=[(1, 2), (0, 2)]),
                [("push", (1, 2), (2,)), ("ask", (0, 2), (0,)), ("ask", (0, 1), (0,))])
        refused(self, BadFamily(-1), trial_of, Desk(3, (0,), family=[(1, 2)]),
                [("push", (1, 2), (2,)), ("ask", (0, 2), (0,))])
        almost = full_desk()
        almost.take_back()
        refused(self, TooMany(60), trial_of, almost, [("ask", (0, 1), (0,)), ("ask", (0, 1), (1,))])
        self.assertEqual(len(trial_of(almost, [("ask", (0, 1), (0,))]).journal_now), 60)
        self.assertEqual(desk.journal_now, Journal(3, (0,)))

    def test_199_trials_by_with(self):
        desk = Desk(3, (0,))
        trial = Trial(desk)
        with trial as twin:
            twin.tell("push", (1, 2), (2,))
            with trial as other:
                self.assertEqual([len(other.journal_now), other is twin], [0, False])
        self.assertEqual([len(desk.journal_now), len(twin.journal_now)], [0, 1])
        desk.tell("ask", (1, 2), (1,))
        with trial as twin:
            self.assertEqual(twin.journal_now, desk.journal_now)
        with self.assertRaises(BadDeed):
            with Trial(desk) as twin:
                twin.tell("none", (), ())
        self.assertEqual(len(desk.journal_now), 1)

    def test_200_the_same_journals(self):
        for one, other in itertools.product(JOURNALS[::9], repeat=2):
            self.assertIs(desk_with(one).same_as(desk_with(other)), one == other)
        self.assertIs(Desk(3, (0,), family=[(0,)]).same_as(Desk(3, (0,))), True)


class JoinedTest(unittest.TestCase):
    def test_200_joined_desks(self):
        seen = {True: 0, False: 0}
        threes = [journal for journal in JOURNALS if journal.worlds == 3]
        for one, other in itertools.product(threes[::3], threes[::2]):
            ring = desk_with(one).joined_with(desk_with(other))
            self.assertEqual(ring, joined_ring(one, other))
            able = any(rank in given_by(other) for rank in given_by(one))
            self.assertIs(ring is None, able)
            seen[able] += 1
        self.assertGreater(min(seen.values()), 20)
        refused(self, OtherWorlds(2), Desk(3, (0,)).joined_with, Desk(2, (0,)))

    def test_119_several_desks_and_products(self):
        """One rank gives several journals exactly if a desk of their joined rank can be told each of them."""
        threes = [journal for journal in JOURNALS if journal.worlds == 3 and journal.beginning == (0,)]
        for one, other in itertools.product(threes[::3], threes[1::3]):
            rank = joined_rank(one, other)
            both = [mine for mine in given_by(one) if mine in given_by(other)]
            self.assertIs(rank is not None, bool(both))
            for first, second in itertools.product(both, repeat=2):
                self.assertIn(first * second, both)
            if rank is not None:
                for journal in (one, other):
                    self.assertEqual(desk_of(rank, deeds_in(journal)).journal_now, journal)

    def test_200_asks_alone(self):
        asks = [Journal(3, (0,), row) for row in itertools.product(
            [("ask", (1, 2), (1,)), ("ask", (1, 2), (2,)), ("ask", (1, 2), (1, 2)), ("ask", (0, 1), (0,))], repeat=2)]
        asks = [journal for journal in asks if given_by(journal)]
        for one, other in itertools.product(asks, repeat=2):
            ring = desk_with(one).joined_with(desk_with(other))
            desk = desk_with(one)
            try:
                for entry in other.entries:
                    desk.tell(*entry)
            except NotSo:
                self.assertIsNotNone(ring)
            else:
                self.assertIsNone(ring)

    def test_201_few_asks_and_all_lots_tell_the_rank(self):
        for worlds in (1, 2, 3, 4):
            for rank in ranks_of(worlds)[::1 if worlds < 4 else 3]:
                rows = [[("ask", lot, answer) for lot, answer in asks_for(rank).cases],
                        [("ask", lot, rank.best(lot)) for lot in books_of(worlds)]]
                levels = []
                for lot in lots_of(worlds)[:-1]:
                    if set(rank.held) <= set(lot):
                        levels = levels + [("level", lot), ("back", ())]
                rows.append(journal_of(rank, levels).entries)
                for entries in rows:
                    desk = desk_with(Journal(worlds, rank.held, entries))
                    self.assertEqual([desk.ranks_left(), desk.least()], [1, rank])

    def test_201_desks_of_ranks(self):
        chance = random.Random(201)
        for rank in ranks_of(3) + ranks_of(4)[::8]:
            deeds = [chance.choice(all_deeds(rank.worlds)) for _ in range(chance.randint(0, 5))]
            desk = desk_of(rank, [[word, list(reversed(lot))] for word, lot in deeds])
            self.assertEqual([desk.journal_now, desk.family, desk.worlds], [journal_of(rank, deeds), None, rank.worlds])
            self.assertEqual(remade(desk).journal_now, desk.journal_now)
            for classes in classes_in(rank.worlds):
                if all(is_whole(classes, lot) for _, lot in deeds):
                    narrow = Narrowing(classes, rank.worlds)(rank)
                    other = desk_of(narrow, [(word, met(classes, lot)) for word, lot in deeds])
                    self.assertEqual(narrowed_journal(desk.journal_now, classes), other.journal_now)

    def test_201_wrong_deeds(self):
        rank = Rank.flat(3)
        for deeds in NO_ROWS:
            refused(self, BadDeed(-1), desk_of, rank, deeds)
        refused(self, TooMany(60), desk_of, rank, [None] * 61)
        for deed in (("put", (0,)), ("ask", ()), ("level", (0, 1, 2)), ("back", (0,)), ("lead", (3,)), ("ask",), None):
            refused(self, BadDeed(1), desk_of, rank, [("ask", (0,)), deed])
        self.assertEqual(len(desk_of(rank, [("ask", (0,))] * 60).journal_now), 60)


if __name__ == "__main__":
    unittest.main()
