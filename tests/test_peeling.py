"""Points 126 to 128: rows of news over a family, the peel, and papers."""

import itertools
import unittest

from helpers import NO_INTEGERS, NO_ROWS, books_of, classes_in, lot_key, ranks_of, refused, stands
from newsbooks.errors import BadFamily, BadNumber, OtherWorlds, TooMany
from newsbooks.folds import led_row
from newsbooks.peeling import Peel, is_peel_paper, leads_any_way, peel_paper
from newsbooks.products import finer
from newsbooks.ranks import Rank
from newsbooks.turning import led

CALLS = (Peel, peel_paper, lambda rank, goal, family: is_peel_paper(rank, goal, family, None),
         lambda rank, goal, family: leads_any_way(rank, goal, family, 2))


def families_of(worlds, most):
    """All families of at most so many lots, with doubles and in any order."""
    return [family for many in range(most + 1) for family in itertools.product(books_of(worlds), repeat=many)]


def reached(rank, family):
    """The cells of all ranks to which rows over the family lead, each with the fewest pieces, by a search."""
    found = {rank.cells: 0}
    queue = [rank]
    for at in queue:
        for lot in family:
            later = led(at, lot)
            if later.cells not in found:
                found[later.cells] = found[at.cells] + 1
                queue.append(later)
    return found


def is_cut(lot, piece):
    return bool(set(lot) & set(piece)) and bool(set(piece) - set(lot))


def is_begun(goal, lot, pieces):
    return all(goal.levels[u] < goal.levels[v]
               for piece in pieces for u in piece if u in lot for v in piece if v not in lot)


def plain_peel(goal, family):
    """The places taken and the pieces left, by the words of the document."""
    pieces, taken = [tuple(range(goal.worlds))], []
    while True:
        able = [place for place, lot in enumerate(family)
                if any(is_cut(lot, piece) for piece in pieces) and is_begun(goal, lot, pieces)]
        if not able:
            return tuple(taken), tuple(sorted(pieces, key=lot_key))
        lot = family[able[0]]
        parts = [[tuple(x for x in piece if (x in lot) == within) for within in (True, False)] for piece in pieces]
        pieces = [part for pair in parts for part in pair if part]
        taken.append(able[0])


def is_paper(rank, goal, family, pieces, pair, told):
    """Whether this is a paper, for pieces that part W and values of the right kinds."""
    def together(x, y):
        return any(x in piece and y in piece for piece in pieces)
    x, y = pair
    if not together(x, y) or stands(rank.levels, x, y) == stands(goal.levels, x, y) or len(told) != len(family):
        return False
    for lot, hindrance in zip(family, told):
        if hindrance is None:
            if any(is_cut(lot, piece) for piece in pieces):
                return False
        else:
            u, v = hindrance
            if not together(u, v) or u not in lot or v in lot or goal.levels[u] < goal.levels[v]:
                return False
    return True


def searched():
    """(rank, goal, family, the fewest pieces of a row over the family that leads, or None)."""
    found = []
    for worlds, most, step in ((1, 2, 1), (2, 3, 1), (3, 2, 1), (4, 2, 17)):
        ranks = ranks_of(worlds)
        for family in families_of(worlds, most)[::step]:
            for rank in ranks[::1 if worlds < 4 else 13]:
                lengths = reached(rank, family)
                found = found + [(rank, goal, family, lengths.get(goal.cells)) for goal in ranks]
    fours = families_of(4, 1)
    for first, second, third in (((0,), (0, 1), (0, 1, 2)), ((1, 3), (2, 3), (0, 1)), ((2,), (0, 2, 3), (1,))):
        family = (first, second, third, fours[5][0])
        for rank in ranks_of(4)[::19]:
            lengths = reached(rank, family)
            found = found + [(rank, goal, family, lengths.get(goal.cells)) for goal in ranks_of(4)]
    return found


SEARCHED = searched()


class PeelTest(unittest.TestCase):
    def test_126_the_peel(self):
        for rank, goal, family, _ in SEARCHED[::3]:
            peel = Peel(rank, goal, [list(reversed(lot)) for lot in family])
            self.assertEqual((peel.taken, peel.pieces), plain_peel(goal, family))
            self.assertEqual([peel.rank, peel.goal, peel.family], [rank, goal, tuple(family)])

    def test_126_lots_that_cut_and_are_begun_and_that_are_not(self):
        flat, goal = Rank.flat(4), Rank([(1,), (0, 3), (2,)])
        self.assertEqual(Peel(flat, goal, [(0, 1, 2, 3), (1,), (0,), (0, 1, 3), (1,)]).taken, (1, 3))
        self.assertEqual(Peel(flat, goal, [(0, 1), (2,), (2, 3)]).taken, ())
        self.assertEqual(Peel(flat, goal, [(3, 0), (2, 1), (1,)]).taken, (2, 0))
        self.assertEqual(Peel(flat, goal, [(3, 0), (2, 1), (1,)]).pieces, ((1,), (2,), (0, 3)))

    def test_127_the_family_leads_exactly_if_some_row_over_it_does(self):
        seen = set()
        for rank, goal, family, wanted in SEARCHED:
            peel = Peel(rank, goal, family)
            self.assertIs(peel.leads(), wanted is not None)
            row = peel.news()
            self.assertEqual(row is None, wanted is None)
            if row is not None:
                self.assertEqual(led_row(rank, row), goal)
                self.assertEqual(row, tuple(peel.family[place] for place in reversed(peel.taken)))
                self.assertLessEqual(len(row), rank.worlds - 1)
            self.assertTrue(wanted is None or wanted < rank.worlds)
            seen.add(wanted)
        self.assertEqual(seen, {None, 0, 1, 2, 3})

    def test_127_the_order_of_the_family_does_not_count(self):
        for rank, goal, family, _ in SEARCHED[::41]:
            pieces = {Peel(rank, goal, order).pieces for order in itertools.permutations(family)}
            self.assertEqual(len(pieces), 1)

    def test_127_all_beginnings(self):
        for worlds in (1, 2, 3, 4):
            for goal in ranks_of(worlds)[::1 if worlds < 4 else 4]:
                for more in ([], [(0,)], [(worlds - 1,), tuple(range(worlds))]):
                    family = list(reversed(goal.beginnings()[:-1])) + more
                    for rank in ranks_of(worlds)[::1 if worlds < 4 else 5]:
                        self.assertIs(Peel(rank, goal, family).leads(), finer(goal, rank))

    def test_127_twelve_worlds(self):
        goal = Rank.strict(tuple(range(11, -1, -1)))
        lots = [lot for lot in goal.beginnings() if len(lot) in (1, 2, 4, 6, 7, 8, 9, 11)]
        steps = [len(lot) for lot in lots]
        rank = Rank([tuple(range(12 - end, 12 - start)) for start, end in zip([0] + steps, steps + [12])])
        peel = Peel(rank, rank, lots)
        self.assertEqual([len(peel.family), peel.leads(), len(peel.news())], [8, True, 8])
        self.assertEqual(led_row(rank, peel.news()), rank)
        self.assertIs(Peel(rank, goal, lots).leads(), False)
        self.assertIsNone(Peel(rank, goal, lots).news())

    def test_126_families_without_lots_and_one_world(self):
        one = Rank.flat(1)
        self.assertEqual([Peel(one, one, []).taken, Peel(one, one, [(0,), (0,)]).news()], [(), ()])
        self.assertEqual([Peel(one, one, []).pieces, peel_paper(one, one, [])], [((0,),), None])
        rank = Rank([(1,), (0, 2)])
        self.assertEqual([Peel(rank, rank, ()).news(), Peel(rank, Rank.flat(3), ()).news()], [(), None])
        self.assertEqual(peel_paper(rank, Rank.flat(3), ()), (((0, 1, 2),), (0, 1), ()))


class PaperTest(unittest.TestCase):
    def test_128_a_paper_exactly_if_no_row_leads(self):
        for rank, goal, family, wanted in SEARCHED:
            paper = peel_paper(rank, goal, family)
            self.assertEqual(paper is None, wanted is not None)
            if paper is not None:
                self.assertIs(is_peel_paper(rank, goal, family, paper), True)

    def test_128_the_paper_of_the_peel(self):
        for rank, goal, family, wanted in SEARCHED[::5]:
            if wanted is None:
                pieces, pair, hindrances = peel_paper(rank, goal, family)
                self.assertEqual(pieces, plain_peel(goal, family)[1])
                pairs = [(x, y) for piece in pieces for x, y in itertools.combinations(piece, 2)]
                unlike = [(x, y) for x, y in pairs if stands(rank.levels, x, y) != stands(goal.levels, x, y)]
                self.assertEqual(pair, min(unlike))
                for lot, told in zip(family, hindrances):
                    able = [(u, v) for piece in pieces for u in piece for v in piece
                            if u in lot and v not in lot and goal.levels[u] >= goal.levels[v]]
                    self.assertEqual(told, min(able) if able else None)

    def test_128_all_papers_of_few_lots(self):
        pairs = list(itertools.product(range(3), repeat=2))
        found = {True: 0, False: 0}
        for family in ([], [(0, 1)], [(2,), (0, 1, 2)], [(1,), (1, 2)]):
            for rank, goal in list(itertools.product(ranks_of(3), repeat=2))[::23]:
                some = False
                for pieces in classes_in(3):
                    for told in itertools.product([None] + pairs, repeat=len(family)):
                        for pair in pairs:
                            wanted = is_paper(rank, goal, family, pieces, pair, told)
                            found[wanted] += 1
                            some = some or wanted
                            self.assertIs(is_peel_paper(rank, goal, family, (pieces, pair, told)), wanted)
                self.assertIs(some, not Peel(rank, goal, family).leads())
        self.assertGreater(min(found.values()), 50)

    def test_128_pieces_and_worlds_in_any_order(self):
        rank, goal, family = Rank.flat(3), Rank.strict([0, 1, 2]), [(0, 1), (1, 2)]
        self.assertEqual(peel_paper(rank, goal, family), (((2,), (0, 1)), (0, 1), (None, (1, 0))))
        for paper in ([[[1, 0], [2]], [1, 0], [None, [1, 0]]], (((2,), [1, 0]), (0, 1), (None, (1, 0)))):
            self.assertIs(is_peel_paper(rank, goal, family, paper), True)
        self.assertIs(is_peel_paper(rank, goal, family, (((0, 1, 2),), (0, 2), ((1, 0), (1, 0)))), False)

    def test_128_what_is_no_paper(self):
        rank, goal, family = Rank.flat(3), Rank.strict([0, 1, 2]), [(0, 1), (1, 2)]
        pieces, pair, told = ((2,), (0, 1)), (0, 1), (None, (1, 0))
        self.assertIs(is_peel_paper(rank, goal, family, (pieces, pair, told)), True)
        wrong = [(), (pieces,), (pieces, pair), (pieces, pair, told, None), [None, None, None], "abc"]
        for value in NO_ROWS + ((), (0,), ((0, 1),), ((2,), (0, 1), ()), ((2,), (0,)), ((2,), (0, 1, 2)), ((0, 1), 2),
                                ((2,), (0, 3), (1,)), ((2,), (False, True)), ((2.0,), (0, 1)), (("2",), (0, 1))):
            wrong.append((value, pair, told))
        for value in NO_ROWS + ((), (0,), (0, 1, 1), (0, 2), (0, 0), (False, True), (False, 1), (0, True), (0, 3), (-1, 0), ("0", "1"), None):
            wrong.append((pieces, value, told))
        for value in NO_ROWS + ((), told + (None,), told[:1], ((1, 0), None), ((0, 1), (1, 0)), (None, (0, 1)),
                                (None, None), (None, (1,)), (None, (1, 0, 0)), (None, (True, False)), (None, (1, False)), (None, (True, 0)), (None, "10"),
                                (None, (1, 2)), (None, 0), (None, ()), (False, (1, 0))):
            wrong.append((pieces, pair, value))
        for paper in wrong + list(NO_ROWS):
            self.assertIs(is_peel_paper(rank, goal, family, paper), False, paper)


class AnyWayTest(unittest.TestCase):
    def test_126_the_shortest_and_least_row_of_all(self):
        for rank, goal, family, wanted in SEARCHED[::7]:
            for length in (0, 1, 2, 3):
                rows = [row for many in range(length + 1) for row in itertools.product(range(len(family)), repeat=many)]
                able = [row for row in rows if led_row(rank, [family[place] for place in row]) == goal]
                found = leads_any_way(rank, goal, family, length)
                self.assertEqual(found, able[0] if able else None)
                self.assertEqual(found is None, wanted is None or wanted > length)

    def test_126_the_oldest_first_and_doubles(self):
        rank, goal = Rank.flat(3), Rank.strict([0, 1, 2])
        self.assertEqual(leads_any_way(rank, goal, [(0, 1), (0,), (0, 1)], 4), (0, 1))
        self.assertEqual(leads_any_way(rank, goal, [(0,), (2,), (1, 0), (0,)], 2), (0, 2))
        self.assertEqual([leads_any_way(rank, rank, [], 4), leads_any_way(rank, goal, [], 4)], [(), None])
        self.assertEqual([leads_any_way(rank, rank, [(0,)], 0), leads_any_way(rank, goal, [(0,)], 0)], [(), None])

    def test_126_more_than_four(self):
        rank, lots = Rank.flat(2), [(0,), (1,), (0, 1), (0,)]
        self.assertEqual(leads_any_way(rank, Rank([(1,), (0,)]), lots, 4), (1,))
        refused(self, TooMany(4), leads_any_way, rank, rank, lots + [(1,)], 4)
        refused(self, TooMany(4), leads_any_way, rank, rank, lots, 5)
        refused(self, OtherWorlds(3), leads_any_way, rank, Rank.flat(3), lots + [(1,)], 5)

    def test_126_lengths(self):
        rank = Rank.flat(2)
        for length in NO_INTEGERS + (-1, -5):
            refused(self, BadNumber("length"), leads_any_way, rank, rank, [(0,)], length)
            refused(self, BadNumber("length"), leads_any_way, rank, Rank.flat(3), [(0,)] * 5, length)
            refused(self, BadFamily(1), leads_any_way, rank, rank, [(0,), ()], length)


class PeelErrorsTest(unittest.TestCase):
    def test_126_families(self):
        rank = Rank.flat(3)
        for call in CALLS:
            for family in NO_ROWS + ([(0,)] * 9, [(0, 3)] * 9):
                refused(self, BadFamily(-1), call, rank, rank, family)
            for family, place in (([()], 0), ([(0,), (3,)], 1), ([(0, 0)], 0), ([(1,), "12"], 1), ([(0,), 1, ()], 1)):
                refused(self, BadFamily(place), call, rank, Rank.flat(4), family)
            for worlds in (1, 2, 4, 12):
                refused(self, OtherWorlds(worlds), call, rank, Rank.flat(worlds), [(0,)])
        self.assertEqual(Peel(rank, rank, [(0,)] * 8).news(), ())


if __name__ == "__main__":
    unittest.main()
