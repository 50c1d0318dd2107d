"""Plain definitions and searches that the program's answers are held against."""

import itertools
import random

from newsbooks.errors import NewsError
from newsbooks.ranks import Rank

# Values that are no integers, no lists and no tuples, to be handed in where one is due.
NO_INTEGERS = (True, False, None, "1", 1.0, (1,), [1])
NO_ROWS = (None, 3, "01", {0: 1}, {0, 1}, range(2))


def refused(case, error, call, *args, **more):
    """Check that the call raises just this error, with just this attribute."""
    with case.assertRaises(NewsError) as caught:
        call(*args, **more)
    found = caught.exception
    case.assertIs(type(found), type(error), (call, args, more))
    case.assertEqual(vars(found), vars(error), (call, args, more))
    return found


def lot_key(lot):
    return (len(lot), tuple(lot))


def lots_of(worlds):
    """All lots of these worlds, in lot order."""
    rows = [row for size in range(worlds + 1) for row in itertools.combinations(range(worlds), size)]
    return sorted(rows, key=lot_key)


def books_of(worlds):
    return [lot for lot in lots_of(worlds) if lot]


def sublots(lot):
    return [row for row in lots_of(max(lot) + 1 if lot else 0) if set(row) <= set(lot)]


def level_rows(worlds):
    """The levels of all ranks of these worlds."""
    rows = itertools.product(range(worlds), repeat=worlds)
    return [row for row in rows if set(row) == set(range(max(row) + 1))]


def cells_of(levels):
    return tuple(tuple(x for x, level in enumerate(levels) if level == step) for step in sorted(set(levels)))


def ranks_of(worlds):
    """All ranks of these worlds, listed by their cells in lot order."""
    rows = [cells_of(levels) for levels in level_rows(worlds)]
    return [Rank(cells) for cells in sorted(rows, key=lambda cells: [lot_key(cell) for cell in cells])]


def best_of(levels, lot):
    least = min(levels[x] for x in lot)
    return tuple(sorted(x for x in lot if levels[x] == least))


def stands(levels, x, y):
    """-1 if x is before y, 0 if alike, 1 if behind."""
    return (levels[x] > levels[y]) - (levels[x] < levels[y])


def holds(levels, comparison):
    x, sign, y = comparison
    return levels[x] < levels[y] if sign == "<" else levels[x] <= levels[y]


def keeping(worlds, told):
    """The levels of all ranks that keep the list."""
    return [levels for levels in level_rows(worlds) if all(holds(levels, entry) for entry in told)]


def all_comparisons(worlds):
    return [(x, sign, y) for x in range(worlds) for sign in ("<", "<=") for y in range(worlds)]


def some_lists(worlds, most, many, seed):
    """Some lists of comparisons, always the same ones: kept ones and others, with doubles and loops."""
    chance = random.Random(seed)
    found = [[]]
    for _ in range(many):
        row = []
        for _ in range(chance.randint(1, most)):
            x, y = chance.randrange(worlds), chance.randrange(worlds)
            row.append((x, chance.choice(["<", "<=", "<="]), y))
        found.append(row)
    return found


def classes_in(worlds):
    """All ways to part the worlds into classes, by the least worlds of the classes."""
    if worlds == 0:
        return [[]]
    found = []
    for rows in classes_in(worlds - 1):
        found.append(rows + [(worlds - 1,)])
        for place in range(len(rows)):
            found.append(rows[:place] + [rows[place] + (worlds - 1,)] + rows[place + 1:])
    return found


def all_cases(worlds):
    """All cases (lot, answer) of these worlds."""
    return [(lot, answer) for lot in books_of(worlds) for answer in sublots(lot)[1:]]


def giving(worlds, cases):
    """The levels of all ranks that give the cases."""
    return [levels for levels in level_rows(worlds) if all(best_of(levels, lot) == answer for lot, answer in cases)]


def case_rows(worlds, most):
    """All rows of at most so many cases of these worlds."""
    return [row for many in range(most + 1) for row in itertools.product(all_cases(worlds), repeat=many)]


def some_case_rows(worlds, most, many, seed):
    """Some rows of cases, always the same ones: of ranks, and with one answer or all of them changed."""
    chance = random.Random(seed)
    rows = level_rows(worlds)
    found = []
    for _ in range(many):
        levels = chance.choice(rows)
        lots = [chance.choice(books_of(worlds)) for _ in range(chance.randint(1, most))]
        cases = [(lot, best_of(levels, lot)) for lot in lots]
        changed = chance.choice([0, 0, 1, len(cases)])
        for place in chance.sample(range(len(cases)), changed):
            cases[place] = (lots[place], chance.choice(sublots(lots[place])[1:]))
        found.append(tuple(cases))
    return found
