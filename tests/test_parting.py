"""Points 117 and 119: what parts two ranks, several journals together, and narrowed journals."""

import itertools
import random
import unittest

from helpers import NO_ROWS, books_of, classes_in, lots_of, ranks_of, refused
from newsbooks.chains import ring_of
from newsbooks.comparisons import keeps
from newsbooks.errors import BadClasses, BadDeed, BadFamily, BadNumber, OtherWorlds
from newsbooks.families import common_parts
from newsbooks.journals import Journal, gives, journal_of
from newsbooks.narrowing import Narrowing, is_whole, met
from newsbooks.parting import joined_rank, joined_ring, narrowed_journal, parted_by, parting_deeds
from newsbooks.ranks import Rank
from newsbooks.readings import Reading
from stores import all_deeds, given_by, lots_for, some_journals, store_behind

FAMILIES = [[], [(0,)], [(1, 2)], [(0, 2), (0, 1)], [(2, 1), (0, 1), (2, 1)], [(0, 1), (1, 2), (0, 2)],
            [(1,), (0, 1, 2), (0, 2)]]


def common_part(family, places, worlds):
    part = set(range(worlds))
    for place in places:
        part = part & set(family[place])
    return sorted(part)


def least_places(one, other, family):
    for places in lots_of(len(family)):
        part = common_part(family, places, one.worlds)
        if part and one.best(part) != other.best(part):
            return places
    return None


def answers(rank, deeds):
    return rank.held, store_behind(rank, deeds)[0]


class PartingTest(unittest.TestCase):
    def test_117_the_fewest_places(self):
        for worlds, families in ((1, [[], [(0,)]]), (2, [[], [(0, 1)], [(0,), (1,)]]), (3, FAMILIES)):
            for one, other in itertools.product(ranks_of(worlds), repeat=2):
                for family in families:
                    turned = [list(reversed(lot)) for lot in family]
                    places = least_places(one, other, family)
                    self.assertEqual(parted_by(one, other, turned), places)
                    parts = common_parts(family, worlds)
                    unlike = any(one.best(part) != other.best(part) for part in parts)
                    self.assertEqual(places is not None, unlike)
                    self.check_deeds(one, other, turned, places)

    def check_deeds(self, one, other, family, places):
        deeds = parting_deeds(one, other, family)
        if places is None:
            self.assertIsNone(deeds)
            return
        words = ["lead"] * (len(places) - 1) + ["ask"] * (len(places) > 0)
        lots = [tuple(sorted(family[place])) for place in places]
        self.assertEqual(deeds, tuple(zip(words, lots)))
        self.assertNotEqual(answers(one, deeds), answers(other, deeds))
        self.assertEqual(deeds == (), one.held != other.held)

    def check_fewer(self, one, other, family):
        """No row of fewer deeds than there are places parts the ranks; where there are none, no row of two."""
        rests = [tuple(x for x in range(one.worlds) if x not in lot) for lot in family]
        deeds = [(word, lot) for word in ("lead", "push", "lean", "ask") for lot in family]
        deeds = deeds + [("level", rest) for rest in rests] + [("back", ())]
        places = least_places(one, other, family)
        for many in range(3 if places is None else len(places)):
            for row in itertools.product(deeds, repeat=many):
                self.assertEqual(answers(one, row), answers(other, row))

    def test_117_no_fewer_deeds_part_them(self):
        for one, other in itertools.combinations(ranks_of(3)[::2], 2):
            for family in ([(1, 2)], [(0, 1), (0, 2)], [(0, 1), (0, 2), (1, 2)]):
                self.check_fewer(one, other, family)
        for first in itertools.permutations(range(4), 2):
            rest = tuple(x for x in range(4) if x not in first)
            one, other = Rank.strict(first + rest), Rank.strict(first + rest[::-1])
            self.check_fewer(one, other, [(0, 1, 2), (1, 2, 3)])

    def test_117_four_worlds(self):
        seen = set()
        families = [[(0, 1, 2), (3, 2, 1)], [(0, 1, 2), (0, 1, 3), (1, 2, 3)], [(3, 2), (0, 1, 2), (1, 2, 3), (0, 1)]]
        ranks = ranks_of(4)
        for one, other in list(itertools.combinations(ranks, 2))[::13]:
            for family in families:
                places = least_places(one, other, family)
                self.assertEqual(parted_by(one, other, family), places)
                self.check_deeds(one, other, family, places)
                seen.add(places and len(places))
        self.assertEqual(seen, {None, (), 1, 2})
        one, other = Rank.strict((0, 3, 1, 2)), Rank.strict((0, 3, 2, 1))
        self.assertEqual(parting_deeds(one, other, families[0]), (("lead", (0, 1, 2)), ("ask", (1, 2, 3))))

    def test_117_all_ranks_parted(self):
        for worlds in (2, 3):
            books = books_of(worlds)
            for size in range(4):
                for family in itertools.combinations(books, size):
                    parts = common_parts(family, worlds)
                    pairs = all(lot in parts for lot in books if len(lot) == 2)
                    ranks = itertools.combinations(ranks_of(worlds), 2)
                    apart = all(parted_by(one, other, family) is not None for one, other in ranks)
                    self.assertEqual(apart, pairs)

    def test_117_sinks_tell_more(self):
        one, other = Rank.strict((0, 1, 2)), Rank.strict((0, 2, 1))
        self.assertIsNone(parted_by(one, other, [(2,)]))
        self.assertNotEqual(answers(one, [("sink", (0, 1))]), answers(other, [("sink", (0, 1))]))

    def test_117_refused_arguments(self):
        one = Rank.flat(3)
        for call in (parted_by, parting_deeds):
            for family in NO_ROWS + ([(0,)] * 9,):
                refused(self, BadFamily(-1), call, one, Rank.flat(2), family)
            for lot in NO_ROWS + ((), [], (3,), (1, 1), (True,)):
                refused(self, BadFamily(1), call, one, Rank.flat(2), [(0,), lot, None])
            for worlds in (1, 2, 4, 12):
                refused(self, OtherWorlds(worlds), call, one, Rank.flat(worlds), [(0,)])
        twelve = tuple(range(12))
        eight = [twelve[:k] + twelve[k + 1:] for k in range(8)]
        last = twelve[:8] + (9, 8, 11, 10)
        self.assertIsNone(parted_by(Rank.strict(twelve), Rank.strict(last), eight[:7]))
        self.assertEqual(parted_by(Rank.strict(twelve), Rank.strict(last), eight), tuple(range(8)))
        words = [word for word, _ in parting_deeds(Rank.strict(twelve), Rank.strict(last), eight)]
        self.assertEqual(words, ["lead"] * 7 + ["ask"])


def some_rows(many):
    """Rows of journals of three worlds: of one rank or of several."""
    chance = random.Random(119)
    journals = some_journals(3, 4, 150, 119)
    found = []
    for _ in range(many):
        rank = chance.choice(ranks_of(3))
        row = []
        for _ in range(chance.randint(1, 3)):
            deeds = [chance.choice(all_deeds(3)) for _ in range(chance.randint(0, 4))]
            row.append(journal_of(chance.choice([rank, rank, chance.choice(ranks_of(3))]), deeds))
        found.append(row)
        found.append(chance.sample(journals, chance.randint(1, 3)))
    return found


class JoinedTest(unittest.TestCase):
    def test_119_several_journals(self):
        seen = set()
        for row in some_rows(150):
            readings = [Reading(journal) for journal in row]
            steps = [(number, source) + entry for number, reading in enumerate(readings)
                     for source, entry in zip(reading.sources, reading.comparisons)]
            shortest = ring_of(3, [step[2:] for step in steps])
            ring = joined_ring(*row)
            self.assertEqual(ring is None, shortest is None)
            if ring is not None:
                self.assertTrue(all(step in steps for step in ring))
                self.assertEqual(len(ring), len(shortest))
                self.check_ring([step[2:] for step in ring])
            given = [rank for rank in ranks_of(3) if all(gives(rank, journal) for journal in row)]
            least = joined_rank(*row)
            fallen = any(reading.fallen is not None for reading in readings)
            self.assertEqual(least is None, fallen or ring is not None)
            self.assertEqual(least is None, not given)
            if given:
                self.assertIn(least, given)
                self.assertTrue(all(least.levels[x] <= rank.levels[x] for rank in given for x in range(3)))
            seen.add((fallen, ring is None))
        self.assertEqual(len(seen), 4)

    def check_ring(self, rows):
        self.assertEqual([right for _, _, right in rows[-1:] + rows[:-1]], [left for left, _, _ in rows])
        self.assertEqual(len({left for left, _, _ in rows}), len(rows))
        self.assertTrue(any(sign == "<" for _, sign, _ in rows))

    def test_119_many_journals(self):
        twelve = tuple(range(12))
        entries = [("ask", twelve[k % 10:], (k % 10,)) for k in range(60)]
        row = [Journal(12, (0,), entries)] * 5
        self.assertGreater(sum(len(Reading(journal).comparisons) for journal in row), 2000)
        self.assertIsNone(joined_ring(*row))
        self.assertEqual(joined_rank(*row).cells[:10], tuple((x,) for x in range(10)))
        other = Journal(12, (0,), [("ask", (5, 9), (9,))])
        ring = joined_ring(*row, other)
        self.assertEqual([len(ring), joined_rank(*row, other)], [2, None])
        self.assertIn((5, 0, 9, "<", 5), ring)

    def test_119_refused_journals(self):
        three, four = Journal(3, (0,)), Journal(4, (0,))
        for call in (joined_ring, joined_rank):
            refused(self, BadNumber("journals"), call)
            refused(self, OtherWorlds(4), call, three, three, four, Journal(5, (0,)))
            refused(self, OtherWorlds(3), call, four, three)
            self.assertIsNone(joined_ring(three))
        self.assertEqual(joined_rank(Journal(1, (0,))), Rank.flat(1))

    def test_119_products(self):
        many = 0
        for journal in some_journals(3, 4, 80, 120):
            given = given_by(journal)
            weak = [(x, "<=", y) for x, sign, y in Reading(journal).comparisons if sign == "<="]
            for rank in given:
                for other in ranks_of(3):
                    if keeps(other, weak):
                        many += 1
                        self.assertTrue(gives(rank * other, journal))
        self.assertGreater(many, 100)


class NarrowedTest(unittest.TestCase):
    def test_119_narrowed_journals(self):
        chance = random.Random(118)
        for classes in classes_in(4):
            classes = [chance.sample(lot, len(lot)) for lot in classes]
            narrow = Narrowing(classes, 4)
            whole = [deed for deed in all_deeds(4) if is_whole(narrow.classes, deed[1])]
            for rank in ranks_of(4)[::6]:
                deeds = [chance.choice(whole) for _ in range(5)]
                journal = journal_of(rank, deeds)
                found = narrowed_journal(journal, classes)
                rows = [(word, met(classes, lot), met(classes, answer)) for word, lot, answer in journal]
                self.assertEqual(found, Journal(len(classes), met(classes, journal.beginning), rows))
                self.assertTrue(gives(narrow(rank), found))

    def test_119_lots_that_are_not_whole(self):
        classes = [(0, 2), (1,)]
        good = ("ask", (1,), (1,))
        for word, lot in (("ask", (0,)), ("lead", (1, 2)), ("level", (2,)), ("sink", (0, 1))):
            self.assertIn(lot, lots_for(word, 3))
            journal = Journal(3, (0,), [good, (word, lot, (0,)), ("push", (0,), (0,))])
            refused(self, BadDeed(1), narrowed_journal, journal, classes)
        kept = Journal(3, (0,), [good, ("lead", (0, 2), (2,)), ("level", (), (2,)), ("back", (), (0, 1))])
        rows = [("ask", (1,), (1,)), ("lead", (0,), (0,)), ("level", (), (0,)), ("back", (), (0, 1))]
        self.assertEqual(narrowed_journal(kept, classes), Journal(2, (0,), rows))

    def test_119_refused_classes(self):
        journal = Journal(3, (0,), [("ask", (0,), (0,))])
        for classes in NO_ROWS:
            refused(self, BadClasses(-1), narrowed_journal, journal, classes)
        for lot in NO_ROWS + ((), (3,), (1, 1), (0,), (True,)):
            refused(self, BadClasses(1), narrowed_journal, journal, [(0, 2), lot, (1,)])
        refused(self, BadClasses(1), narrowed_journal, journal, [(0, 2)])


if __name__ == "__main__":
    unittest.main()
