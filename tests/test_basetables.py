"""Points 184 to 187: base tables, choices of rests, what is left out, and whole bases."""

import itertools
import random
import unittest

from bases_of import (
    all_bases, is_carried, least_meeting, plain_kernels, plain_rests, said, some_bases, with_place)
from helpers import NO_INTEGERS, NO_ROWS, books_of, lots_of, refused, sublots
from newsbooks.bases import whole_base
from newsbooks.basetables import (
    BASE_WISHES, BaseTable, base_break, choice_behind, falls_behind, is_joined, said_table)
from newsbooks.errors import BadBase, BadCase, BadLot, BadNumber, BadTable, BadWord, TooMany
from newsbooks.givewishes import has_give
from newsbooks.givings import Giving

SMALL = [(1, base) for base in all_bases(1, 2)] + [(2, base) for base in all_bases(2, 2)]
SMALL = SMALL + [(2, ((0,), (1,), (0, 1))), (2, ((0,), (1,), (0,))), (3, ((0, 1), (1, 2))), (3, ((0,), (0, 2)))]
LARGE = [(3, base) for base in some_bases(3, 4, 14, 184)] + [(4, base) for base in some_bases(4, 4, 4, 184)]
LARGE = LARGE + [(3, ((0, 1), (1, 2), (0, 2))), (3, ((0, 1), (0, 1), (1, 2), (2,)))]


def lots_given(worlds):
    return lots_of(worlds)[:-1]


def rests_of(base, worlds):
    """All unlike tuples of rests, each with the lots that have it."""
    found = {}
    for lot in lots_given(worlds):
        found.setdefault(plain_rests(base, worlds, lot), []).append(lot)
    return found


def parts(rows):
    """All parts of the rows that are not empty."""
    return [[rows[place] for place in places] for places in lots_of(len(rows))[1:]]


def in_all(rows):
    return tuple(sorted(set(rows[0]).intersection(*rows)))


def all_choices(base, worlds):
    """All choices, as dicts, with what stays with each lot by them."""
    unlike = list(rests_of(base, worlds).items())
    found = []
    for row in itertools.product(*[parts(rests) for rests, _ in unlike]):
        choice = {rests: chosen for (rests, _), chosen in zip(unlike, row)}
        stays = {lot: in_all(chosen) for (_, lots), chosen in zip(unlike, row) for lot in lots}
        found.append((choice, {lot: stays[lot] for lot in lots_given(worlds)}))
    return found


def table_of(base, worlds, stays):
    return BaseTable(base, worlds, list(stays.items()))


def tables_of(base, worlds, most, seed):
    """All base tables of the base, or some of them and those of choices with an answer changed."""
    lots, sublists = lots_given(worlds), lots_of(len(base))
    if len(sublists) ** len(lots) <= most:
        return [dict(zip(lots, row)) for row in itertools.product(sublists, repeat=len(lots))]
    chance = random.Random(seed)
    found = [{lot: chance.choice(sublists) for lot in lots} for _ in range(most // 4)]
    for _ in range(most // 2):
        stays = {}
        for rests, same in rests_of(base, worlds).items():
            chosen = in_all(chance.choice(parts(rests)))
            stays.update({lot: chosen for lot in same})
        if chance.random() < 0.5:
            stays[chance.choice(lots)] = chance.choice(sublists)
        found.append({lot: stays[lot] for lot in lots})
    return found


def cases():
    rows = []
    for number, (worlds, base) in enumerate(SMALL + LARGE):
        for stays in tables_of(base, worlds, 512 if worlds < 3 else 24, number):
            rows.append((base, worlds, stays))
    return rows


CASES = cases()


def falls_at(base, worlds, stays, wish, lot):
    """The places at which the wish falls for the lot, [-1] for one that is told of the lot alone."""
    mine, everything = stays[lot], lots_of(len(base))
    out = [place for place in range(len(base)) if place not in mine]
    if wish == "safe":
        return [-1] if is_carried(base, worlds, mine, lot) else []
    if wish == "in a kernel":
        kernels = plain_kernels(base, worlds, lot)
        return [place for place in out if not any(place in kernel for kernel in kernels)]
    if wish == "needed":
        free = [row for row in everything if set(mine) <= set(row) and not is_carried(base, worlds, row, lot)]
        return [b for b in out if not any(is_carried(base, worlds, with_place(row, b), lot) for row in free)]
    for other in lots_given(worlds)[:lots_given(worlds).index(lot)]:
        alike = all(is_carried(base, worlds, row, lot) == is_carried(base, worlds, row, other) for row in everything)
        if alike and stays[other] != mine:
            return [-1]
    return []


def plain_break(base, worlds, stays, wish):
    for lot in lots_given(worlds):
        places = falls_at(base, worlds, stays, wish, lot)
        if places:
            return (lot, places[0])
    return None


def has(base, worlds, stays, *wishes):
    return all(plain_break(base, worlds, stays, wish) is None for wish in wishes)


class BaseTablesTest(unittest.TestCase):
    def test_184_what_stays(self):
        for base, worlds, stays in CASES[::5]:
            table = table_of(base, worlds, stays)
            self.assertEqual([table.base, table.worlds, table.pairs], [base, worlds, tuple(stays.items())])
            turned = [[list(reversed(lot)), list(reversed(row))] for lot, row in reversed(list(stays.items()))]
            same = BaseTable([list(reversed(lot)) for lot in base], worlds, turned)
            self.assertEqual([same.base, same.pairs], [base, table.pairs])
            for lot, row in stays.items():
                self.assertEqual(table.stays_with(list(reversed(lot))), row)
        self.assertEqual(BaseTable([], 1, [((), ())]).pairs, (((), ()),))

    def test_184_the_least_break_of_each_wish(self):
        self.assertEqual(BASE_WISHES, ("safe", "needed", "in a kernel", "same"))
        seen = {(wish, right): 0 for wish in BASE_WISHES for right in (True, False)}
        for base, worlds, stays in CASES:
            table = table_of(base, worlds, stays)
            for wish in BASE_WISHES:
                found = base_break(table, wish)
                self.assertEqual(found, plain_break(base, worlds, stays, wish))
                seen[(wish, found is None)] += 1
        self.assertGreater(min(seen.values()), 100)
        for wish in ("", "Safe", "in a kernel ", "stays", None, 3, ["safe"], {}):
            refused(self, BadWord(wish), base_break, table, wish)

    def test_184_wrong_tables(self):
        base = [(0,), (1,)]
        right = [((), (0,)), ((0,), (1,)), ((1,), (0, 1))]
        for worlds in NO_INTEGERS + (0, 5):
            refused(self, BadNumber("worlds"), BaseTable, None, worlds, None)
        for value in NO_ROWS:
            refused(self, BadBase(-1), BaseTable, value, 2, None)
            refused(self, BadTable(-1), BaseTable, base, 2, value)
        refused(self, BadBase(1), BaseTable, [(0,), (2,)], 2, None)
        refused(self, TooMany(8), BaseTable, [(0,)] * 9, 2, None)
        for entry in (((0, 1), ()), ((2,), ()), ((0, 0), ()), (None, ()), ((0,), (2,)), ((0,), (1, 1)), ((0,), None),
                      ((0,), (True,)), ((0,),), ((0,), (), ()), None, 3, "ab", ((), "0")):
            refused(self, BadTable(0), BaseTable, base, 2, [entry] + right)
            refused(self, BadTable(1), BaseTable, base, 2, [((1,), ()), entry])
        refused(self, BadTable(3), BaseTable, base, 2, right + [((0,), (1,))])
        for gone in range(3):
            refused(self, BadTable(2), BaseTable, base, 2, right[:gone] + right[gone + 1:])
        table = BaseTable(base, 2, right)
        for lot, place in ((None, -1), ((2,), 0), ((0, 0), 1), ((0, 1), -1), ([1, 0], -1)):
            refused(self, BadLot(place), table.stays_with, lot)


class ChoicesTest(unittest.TestCase):
    def test_185_tables_of_choices(self):
        for worlds, base in SMALL + LARGE:
            choices = all_choices(base, worlds)
            for choice, stays in choices[::max(1, len(choices) // 8)]:
                turned = [[[list(rest) for rest in rests], [list(reversed(rest)) for rest in reversed(chosen + chosen[:1])]]
                          for rests, chosen in reversed(list(choice.items()))]
                self.assertEqual(BaseTable.of_choice(base, worlds, turned).pairs, tuple(stays.items()))
            firsts = {lot: plain_rests(base, worlds, lot)[0] for lot in lots_given(worlds)}
            every = {lot: in_all(plain_rests(base, worlds, lot)) for lot in lots_given(worlds)}
            turned = [list(reversed(lot)) for lot in base]
            self.assertEqual(BaseTable.of_first(turned, worlds).pairs, tuple(firsts.items()))
            self.assertEqual(BaseTable.of_all(turned, worlds).pairs, tuple(every.items()))
            self.assertIn(firsts, [stays for _, stays in choices])

    def test_185_of_some_choice_exactly_if_no_break(self):
        known = {}
        seen = {True: 0, False: 0}
        for base, worlds, stays in CASES:
            if (base, worlds) not in known:
                known[(base, worlds)] = all_choices(base, worlds)
            making = [choice for choice, other in known[(base, worlds)] if other == stays]
            found = choice_behind(table_of(base, worlds, stays))
            sound = has(base, worlds, stays, "safe", "needed", "same")
            self.assertEqual([bool(making), found is not None], [sound, sound])
            seen[sound] += 1
            if found is not None:
                self.check_choice(base, worlds, stays, found, making)
        self.assertGreater(min(seen.values()), 100)

    def check_choice(self, base, worlds, stays, found, making):
        """It has all rests around what stays, in order, and each choice that makes the table has only such rests."""
        wanted = []
        for rests, lots in rests_of(base, worlds).items():
            wanted.append((rests, tuple(rest for rest in rests if set(stays[lots[0]]) <= set(rest))))
        self.assertEqual(found, tuple(wanted))
        self.assertEqual(BaseTable.of_choice(base, worlds, found).pairs, tuple(stays.items()))
        self.assertIn({rests: list(chosen) for rests, chosen in found}, making)
        for choice in making:
            for rests, chosen in found:
                self.assertTrue(set(choice[rests]) <= set(chosen))

    def test_185_the_choice_of_all_rests(self):
        for worlds, base in SMALL + LARGE:
            least = dict(BaseTable.of_all(base, worlds).pairs)
            self.assertTrue(has(base, worlds, least, "safe", "needed", "same"))
            for _, stays in all_choices(base, worlds)[:200]:
                self.assertTrue(all(set(least[lot]) <= set(row) for lot, row in stays.items()))

    def test_185_wrong_choices(self):
        base = [(0,), (1,)]
        right = [(((0,), (1,)), ((0,),)), (((0,),), ((0,),)), (((1,),), ((1,),))]
        unlike = [rests for rests in rests_of(base, 2)]
        self.assertEqual(sorted(unlike), sorted(rests for rests, _ in right))
        for worlds in NO_INTEGERS + (0, 5):
            for make in (BaseTable.of_first, BaseTable.of_all, lambda base, worlds: BaseTable.of_choice(base, worlds, None)):
                refused(self, BadNumber("worlds"), make, None, worlds)
        for make in (BaseTable.of_first, BaseTable.of_all, lambda base, worlds: BaseTable.of_choice(base, worlds, None)):
            for value in NO_ROWS:
                refused(self, BadBase(-1), make, value, 2)
            refused(self, BadBase(1), make, [(0,), (2,)], 2)
            refused(self, TooMany(8), make, [(0,)] * 9, 2)
        for value in NO_ROWS:
            refused(self, BadCase(-1), BaseTable.of_choice, base, 2, value)
        for entry in (None, 3, "ab", (), (right[0][0],), right[0] + ((),), (((1,), (0,)), ((0,),)), (((0, 1),), ((0, 1),)),
                      (((0,), (1,)), ()), (((0,), (1,)), ((0, 1),)), (((0,), (1,)), ((),)), (((0,), (1,)), ((0, 0),)), (((0,), (1,)), ((0,), ())),
                      (((0,), (1,)), (0,)), (((0,), (1,)), None), (((0,), (True,)), ((0,),)), (((0,), (1,)), ((False,),)),
                      (None, ((0,),)), ((0, 1), ((0,),)), ((), ()), ("01", ((0,),))):
            refused(self, BadCase(0), BaseTable.of_choice, base, 2, [entry] + right)
            refused(self, BadCase(1), BaseTable.of_choice, base, 2, [right[1], entry])
        refused(self, BadCase(3), BaseTable.of_choice, base, 2, right + [right[1]])
        for gone in range(3):
            refused(self, BadCase(2), BaseTable.of_choice, base, 2, right[:gone] + right[gone + 1:])
        self.assertEqual(BaseTable.of_choice(base, 2, right).pairs, (((), (0,)), ((0,), (1,)), ((1,), (0,))))


class FallsTest(unittest.TestCase):
    def test_186_what_is_left_out_by_kernels(self):
        seen = {True: 0, False: 0}
        for base, worlds, stays in CASES:
            outs = {lot: tuple(place for place in range(len(base)) if place not in row) for lot, row in stays.items()}
            kernels = {lot: plain_kernels(base, worlds, lot) for lot in stays}
            shape = all(all(set(outs[lot]) & set(kernel) for kernel in kernels[lot]) and
                        all(any(place in kernel for kernel in kernels[lot]) for place in outs[lot]) and
                        all(outs[other] == outs[lot] for other in stays if kernels[other] == kernels[lot])
                        for lot in stays)
            sound = has(base, worlds, stays, "safe", "in a kernel", "same")
            self.assertIs(sound, shape)
            found = falls_behind(table_of(base, worlds, stays))
            wanted = tuple({kernels[lot]: outs[lot] for lot in stays}.items())
            self.assertEqual(found, wanted if sound else None)
            seen[sound] += 1
        self.assertGreater(min(seen.values()), 100)

    def test_186_joined_tables(self):
        seen = {}
        for base, worlds, stays in CASES:
            wanted = True
            for lot, row in stays.items():
                out = {place for place in range(len(base)) if place not in row}
                least = [set(part) for part in least_meeting(plain_kernels(base, worlds, lot), len(base))]
                wanted = wanted and all(any(place in part and part <= out for part in least) for place in out)
            table = table_of(base, worlds, stays)
            self.assertIs(is_joined(table), wanted)
            if falls_behind(table) is not None:
                self.assertIs(choice_behind(table) is not None, wanted)
            key = (falls_behind(table) is not None, wanted)
            seen[key] = seen.get(key, 0) + 1
        self.assertGreater(min(seen[(True, True)], seen[(True, False)], seen[(False, True)], seen[(False, False)]), 1)


class SaidTest(unittest.TestCase):
    def test_187_what_stays_says(self):
        for base, worlds, stays in CASES[::4]:
            found = said_table(table_of(base, worlds, stays))
            self.assertEqual(found, Giving(worlds, [(lot, said(base, worlds, row)) for lot, row in stays.items()]))

    def test_187_rests_of_whole_bases(self):
        for worlds in (1, 2, 3, 4):
            for book in books_of(worlds):
                base = whole_base(worlds, book)
                for lot in lots_given(worlds):
                    if set(book) <= set(lot):
                        gone = [z for z in range(worlds) if z not in lot]
                        wanted = {tuple(k for k, part in enumerate(base) if z in part) for z in gone}
                    else:
                        wanted = {tuple(range(len(base)))}
                    self.assertEqual(set(plain_rests(base, worlds, lot)), wanted)

    def test_187_choices_make_give_up_tables_one_to_one(self):
        wishes = ("hold", "stand", "yield", "regain")
        for worlds in (1, 2, 3):
            for book in books_of(worlds):
                base = whole_base(worlds, book)
                found = []
                for _, stays in all_choices(base, worlds):
                    giving = said_table(table_of(base, worlds, stays))
                    self.assertTrue(all(has_give(giving, wish) for wish in wishes))
                    self.assertEqual(giving.held, book)
                    if stays not in [other for _, other in found]:
                        found.append((giving.pairs, stays))
                self.assertEqual(len({pairs for pairs, _ in found}), len(found))
                self.assertEqual(len(found), self.counted(worlds, book, wishes))

    def counted(self, worlds, book, wishes):
        """The number of give-up tables with the four wishes that hold the book: for A with the book inside, any part."""
        rows = []
        for lot in lots_given(worlds):
            able = [book] if not set(book) <= set(lot) else [
                tuple(sorted({*book, *part})) for part in sublots(tuple(x for x in range(worlds) if x not in lot))[1:]]
            rows.append([(lot, held) for held in able])
        found = [Giving(worlds, row) for row in itertools.product(*rows)]
        self.assertTrue(all(has_give(giving, wish) for giving in found for wish in wishes))
        return len(found)


if __name__ == "__main__":
    unittest.main()
