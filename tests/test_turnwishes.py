"""Points 91 to 93: wishes about what a rank becomes when news come in, and their shapes."""

import itertools
import random
import unittest

from helpers import NO_INTEGERS, NO_ROWS, best_of, books_of, ranks_of, refused, stands
from newsbooks.errors import BadLot, BadWord, OtherWorlds, TooMany
from newsbooks.ranks import Rank
from newsbooks.turning import leaned, led, pushed
from newsbooks.turnwishes import TURN_WISHES, begins_best, has_shape, is_next, turn_break

NO_WISHES = ("", "Within", "within ", "keeps_level", "heritage", None, 3, ["within"], ("within",), {})


def breaks(wish, rank, lot, later, asked):
    """Whether the lot that is asked breaks the wish, by the words of the document."""
    news, front = set(lot), set(best_of(rank.levels, lot))
    about = set(asked)
    old, new = set(best_of(rank.levels, asked)), set(best_of(later.levels, asked))
    needs, gives = {
        "within": (about <= news, new == old),
        "without": (not about & news, new == old),
        "stays": (old <= news, new <= news),
        "keeps level": (bool(old & news), bool(new & news)),
        "gains": (bool(old & news), new <= news),
        "all ahead": (bool(about & news), new <= news),
        "only best": (not about & front, new == old),
        "only ties": (not about & front and not old & news, not new & news),
    }[wish]
    return needs and not gives


def shape(wish, rank, lot, later):
    """Whether the later rank has the shape of the wish, by the words of the document."""
    worlds = range(rank.worlds)
    front = best_of(rank.levels, lot)
    same = {"within": lot, "without": [x for x in worlds if x not in lot],
            "only best": [x for x in worlds if x not in front]}
    if wish in same:
        pairs = itertools.product(same[wish], repeat=2)
        return all(stands(rank.levels, x, y) == stands(later.levels, x, y) for x, y in pairs)
    for x, y in itertools.product(lot, [y for y in worlds if y not in lot]):
        old, new = stands(rank.levels, x, y), stands(later.levels, x, y)
        if wish == "stays" and old == -1 and new != -1:
            return False
        if wish == "keeps level" and old != 1 and new == 1:
            return False
        if wish == "gains" and old != 1 and new != -1:
            return False
        if wish == "all ahead" and new != -1:
            return False
        if wish == "only ties" and old == 1 and x not in front and new != 1:
            return False
    return True


def cases():
    """Ranks, news and later ranks: all of up to three worlds, some of four."""
    found = []
    for worlds in (1, 2, 3):
        found = found + list(itertools.product(ranks_of(worlds), books_of(worlds), ranks_of(worlds)))
    chance = random.Random(91)
    ranks = ranks_of(4)
    for _ in range(150):
        rank, lot = chance.choice(ranks), chance.choice(books_of(4))
        later = chance.choice([led, pushed, leaned, lambda *_: chance.choice(ranks)])(rank, lot)
        found.append((rank, lot, later))
    return found


CASES = cases()


class WishesTest(unittest.TestCase):
    def test_91_the_first_lot_that_breaks_a_wish(self):
        wanted = ("within", "without", "stays", "keeps level", "gains", "all ahead", "only best", "only ties")
        self.assertEqual(TURN_WISHES, wanted)
        for rank, lot, later in CASES:
            for wish in TURN_WISHES:
                wrong = (asked for asked in books_of(rank.worlds) if breaks(wish, rank, lot, later, asked))
                self.assertEqual(turn_break(rank, list(reversed(lot)), later, wish), next(wrong, None))

    def test_92_no_lot_breaks_a_wish_exactly_if_its_shape_is_there(self):
        seen = set()
        for rank, lot, later in CASES:
            for wish in TURN_WISHES:
                right = shape(wish, rank, lot, later)
                self.assertIs(has_shape(rank, list(reversed(lot)), later, wish), right)
                self.assertEqual(turn_break(rank, lot, later, wish) is None, right)
                seen.add((wish, right))
        self.assertEqual(len(seen), 16)

    def test_91_refused_arguments(self):
        rank = Rank.flat(9)
        for call in (turn_break, has_shape):
            for lot in NO_ROWS + ((), []):
                refused(self, BadLot(-1), call, rank, lot, Rank.flat(2), "no wish")
            for entry in NO_INTEGERS + (9, -1, 2):
                refused(self, BadLot(1), call, rank, [2, entry, 0], Rank.flat(2), "no wish")
            for wish in NO_WISHES:
                refused(self, BadWord(wish), call, rank, (0,), Rank.flat(2), wish)
            for worlds in (8, 10):
                refused(self, OtherWorlds(worlds), call, rank, (0,), Rank.flat(worlds), "stays")

    def test_91_eight_worlds_and_nine(self):
        for worlds in (8, 9, 12):
            rank = Rank.strict(tuple(range(worlds)))
            later = pushed(rank, (3, 5))
            for wish, right in zip(TURN_WISHES, (True, True, True, True, True, False, True, True)):
                self.assertIs(has_shape(rank, (3, 5), later, wish), right)
                if worlds > 8:
                    refused(self, TooMany(8), turn_break, rank, (3, 5), later, wish)
                else:
                    self.assertEqual(turn_break(rank, (3, 5), later, wish), None if right else (0, 5))


class NextTest(unittest.TestCase):
    def test_93_beginning_best_and_next_ranks(self):
        for rank, lot, later in CASES:
            turned_lot = list(reversed(lot))
            front = best_of(rank.levels, lot)
            begins = best_of(later.levels, range(rank.worlds)) == front
            self.assertIs(begins_best(rank, turned_lot, later), begins)
            wishes = ("within", "without", "stays", "keeps level")
            right = begins and all(shape(wish, rank, lot, later) for wish in wishes)
            self.assertIs(is_next(rank, turned_lot, later), right)

    def test_93_led_pushed_and_leaned_ranks(self):
        seen = set()
        for rank, lot, later in CASES:
            has = {wish: has_shape(rank, lot, later, wish) for wish in TURN_WISHES}
            begins = begins_best(rank, lot, later)
            lead = has["within"] and has["without"] and has["all ahead"]
            push = begins and has["only best"]
            lean = begins and has["within"] and has["without"] and has["gains"] and has["only ties"]
            self.assertEqual(later == led(rank, lot), lead)
            self.assertEqual(later == pushed(rank, lot), push)
            self.assertEqual(later == leaned(rank, lot), lean)
            seen.add((lead, push, lean))
            if lead or push or lean:
                self.assertTrue(is_next(rank, lot, later))
        self.assertGreaterEqual(len(seen), 7)

    def test_93_twelve_worlds(self):
        rank = Rank.strict(tuple(range(12)))
        for later, begins, right in ((led(rank, (11, 4)), True, True), (rank, False, False),
                                     (Rank.two((4,), 12), True, False)):
            self.assertIs(begins_best(rank, (11, 4), later), begins)
            self.assertIs(is_next(rank, (11, 4), later), right)

    def test_93_refused_arguments(self):
        rank = Rank.flat(4)
        for call in (begins_best, is_next):
            for lot in NO_ROWS + ((), []):
                refused(self, BadLot(-1), call, rank, lot, Rank.flat(2))
            for entry in NO_INTEGERS + (4, -1, 2):
                refused(self, BadLot(1), call, rank, [2, entry, 0], Rank.flat(2))
            for worlds in (1, 3, 5, 12):
                refused(self, OtherWorlds(worlds), call, rank, (0, 1), Rank.flat(worlds))


if __name__ == "__main__":
    unittest.main()
