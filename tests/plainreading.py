"""Journals read by the words of points 108 to 111: a plain second way to what newsbooks.readings works out.

A block is (worlds, live, codes), codes a dict by world.
"""


def start(worlds):
    return [(list(range(worlds)), True, {x: 0 for x in range(worlds)})]


def first_block(blocks, lot):
    return next(number for number, block in enumerate(blocks) if set(block[0]) & set(lot))


def told_best(blocks, lot, best):
    """Whether the check of point 109 holds, and the comparisons."""
    lives, live, codes = blocks[first_block(blocks, lot)]
    part = sorted(set(lives) & set(lot))
    if not best or not set(best) <= set(part) or len({codes[x] for x in best}) != 1:
        return False, []
    least_code = min(codes[x] for x in part)
    if not live and not {x for x in part if codes[x] == least_code} <= set(best):
        return False, []
    if not live:
        return True, []
    h = min(best)
    rows = []
    for x in sorted(best):
        if x != h:
            rows.append((h, "<=", x))
            rows.append((x, "<=", h))
    for z in part:
        if z not in best:
            rows.append((h, "<=", z) if codes[z] > codes[h] else (h, "<", z))
    return True, rows


def told_sink(blocks, now, lot, rest, answer):
    """Whether the check of "sink" holds where held now is given up, and the comparisons."""
    best = sorted(set(answer) & set(rest))
    right, rows = told_best(blocks, rest, best)
    if not right:
        return False, []
    number = first_block(blocks, rest)
    lives, live, codes = blocks[number]
    code = codes[best[0]]
    if not set(now) <= set(answer):
        return False, []
    for place, block in enumerate(blocks):
        if place < number and not set(block[0]) <= set(answer):
            return False, []
        if place > number and set(block[0]) & set(answer):
            return False, []
    if not live:
        return all((x in answer) == (codes[x] <= code) for x in lives), []
    h = min(best)
    for x in sorted(set(lives) & set(lot)):
        if x in answer:
            rows.append((x, "<", h) if codes[x] > code else (x, "<=", h))
        else:
            rows.append((h, "<=", x) if codes[x] > code else (h, "<", x))
    return True, rows


def told_by(blocks, now, worlds, entry):
    """The check and the comparisons of an entry other than "back"."""
    word, lot, answer = entry
    rest = [x for x in range(worlds) if x not in lot]
    if word in ("level", "sink") and not set(now) <= set(lot):
        return tuple(answer) == tuple(now), []
    if word == "level":
        right, rows = told_best(blocks, rest, sorted(set(answer) - set(now)))
        return (True, rows) if right and set(now) <= set(answer) else (False, [])
    if word == "sink":
        return told_sink(blocks, now, lot, rest, answer)
    return told_best(blocks, lot, answer)


def left_over(blocks, keep):
    rows = [([x for x in lives if keep(x)], live, codes) for lives, live, codes in blocks]
    return [row for row in rows if row[0]]


def form_behind(blocks, now, entry):
    """The form behind an entry other than "back" whose check holds."""
    word, lot, answer = entry
    if word == "ask" or (word in ("level", "sink") and not set(now) <= set(lot)):
        return blocks
    if word == "lead":
        return left_over(blocks, lambda x: x in lot) + left_over(blocks, lambda x: x not in lot)
    others = left_over(blocks, lambda x: x not in answer)
    if word == "lean":
        others = [(lives, live, {x: 2 * codes[x] + (x not in lot) for x in lives}) for lives, live, codes in others]
    return [(list(answer), False, {x: 0 for x in answer})] + others


def as_triples(blocks):
    return tuple((tuple(lives), live, tuple(codes[x] for x in lives)) for lives, live, codes in blocks)


def read(journal):
    """The comparisons with their sources, the forms, the place of the entry that falls, and what is held now."""
    blocks, now = start(journal.worlds), journal.beginning
    told = [(-1, row) for row in told_best(blocks, range(journal.worlds), now)[1]]
    forms = [as_triples(blocks)]
    standing = []
    for place, entry in enumerate(journal.entries):
        word, _, answer = entry
        if word == "back":
            if standing:
                blocks, now = standing[-1]
                standing = standing[:-1]
            if tuple(answer) != tuple(now):
                return told, forms, place, now
        else:
            right, rows = told_by(blocks, now, journal.worlds, entry)
            if not right:
                return told, forms, place, now
            told = told + [(place, row) for row in rows]
            if word != "ask":
                standing = standing + [(blocks, now)]
            blocks = form_behind(blocks, now, entry)
            now = now if word == "ask" else answer
        forms.append(as_triples(blocks))
    return told, forms, None, now
