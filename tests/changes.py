"""Pair tables, distances and lists of them, to hold the program's answers against."""

import itertools
import random

from helpers import books_of, level_rows, sublots
from newsbooks.distances import Distance
from newsbooks.pairtables import PairTable


def answers_in(table):
    """What the table gives for each book and each piece of news, as a dict."""
    lots = books_of(table.worlds)
    return {(book, news): table.changed(book, news) for book in lots for news in lots}


def table_with(worlds, answers):
    return PairTable(worlds, [(book, news, answer) for (book, news), answer in answers.items()])


def all_pair_tables(worlds):
    """All pair tables of one or two worlds."""
    pairs = list(itertools.product(books_of(worlds), repeat=2))
    rows = itertools.product(*[sublots(news)[1:] for _, news in pairs])
    return [table_with(worlds, dict(zip(pairs, row))) for row in rows]


def moving_answers(worlds, singles):
    """What each book becomes if each world is moved by what singles, a dict, has for it and the news."""
    lots = books_of(worlds)
    return {(book, news): tuple(sorted({y for x in book for y in singles[(x, news)]}))
            for book in lots for news in lots}


def all_moving(worlds):
    """What all moving tables of these worlds give, as dicts."""
    free = [(x, news) for x in range(worlds) for news in books_of(worlds) if x not in news]
    bound = {(x, news): (x,) for x in range(worlds) for news in books_of(worlds) if x in news}
    rows = itertools.product(*[sublots(news)[1:] for _, news in free])
    return [moving_answers(worlds, {**bound, **dict(zip(free, row))}) for row in rows]


def some_moving(worlds, many, seed):
    """What some moving tables give, always the same ones."""
    chance = random.Random(seed)
    found = []
    for _ in range(many):
        singles = {(x, news): (x,) if x in news else chance.choice(sublots(news)[1:])
                   for x in range(worlds) for news in books_of(worlds)}
        found.append(moving_answers(worlds, singles))
    return found


def some_pair_tables(worlds, many, seed):
    """Some pair tables, always the same ones: any, moving ones, and these with an answer changed."""
    chance = random.Random(seed)
    found = []
    pairs = list(itertools.product(books_of(worlds), repeat=2))
    for answers in some_moving(worlds, many, seed):
        found.append(table_with(worlds, answers))
        book, news = chance.choice(pairs)
        found.append(table_with(worlds, {**answers, (book, news): chance.choice(sublots(news)[1:])}))
        found.append(table_with(worlds, {(book, news): chance.choice(sublots(news)[1:]) for book, news in pairs}))
        found.append(table_with(worlds, put_answers(chance.choice(some_distances(worlds, 8, seed)))))
    return found


def pairs_of_worlds(worlds):
    return list(itertools.combinations(range(worlds), 2))


def distance_with(worlds, numbers):
    """The distance that has these numbers for the pairs of worlds in their order."""
    by_pair = dict(zip(pairs_of_worlds(worlds), numbers))
    return Distance([[by_pair[(min(x, y), max(x, y))] if x != y else 0 for y in range(worlds)] for x in range(worlds)])


def all_distances(worlds):
    """A distance for each way to order the pairs of unlike worlds."""
    rows = level_rows(worlds * (worlds - 1) // 2) if worlds > 1 else [()]
    return [distance_with(worlds, [level + 1 for level in row]) for row in rows]


def some_distances(worlds, many, seed):
    chance = random.Random(seed)
    pairs = len(pairs_of_worlds(worlds))
    return [distance_with(worlds, [chance.randint(1, chance.choice([2, 4, 9])) for _ in range(pairs)])
            for _ in range(many)]


def plain_nearest(rows, book, news):
    gaps = {x: min(rows[x][k] for k in book) for x in news}
    return tuple(sorted(x for x in news if gaps[x] == min(gaps.values())))


def put_answers(distance):
    """What the distance puts in for each book and each piece of news."""
    lots = books_of(distance.worlds)
    return {(book, news): plain_nearest(distance.rows, book, news) for book in lots for news in lots}


def fewest_in_ring(comparisons):
    """How many of the comparisons (left, sign, right) the shortest ring has, or None, by a search from each one."""
    found = None
    for start, sign, end in comparisons:
        seen = {(end, sign == "<"): 1}
        queue = [(end, sign == "<")]
        for at, strict in queue:
            for left, more, right in comparisons:
                state = (right, strict or more == "<")
                if left == at and state not in seen:
                    seen[state] = seen[(at, strict)] + 1
                    queue.append(state)
        many = seen.get((start, True))
        found = many if found is None or (many is not None and many < found) else found
    return found


def is_plain_ring(comparisons):
    """Whether the comparisons, in this order, are a ring."""
    if not comparisons or all(sign == "<=" for _, sign, _ in comparisons):
        return False
    lefts = [left for left, _, _ in comparisons]
    rights = [right for _, _, right in comparisons]
    return rights == lefts[1:] + lefts[:1] and len(set(lefts)) == len(lefts)
