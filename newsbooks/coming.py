"""Answers that can come to one more deed, and those that must."""

from newsbooks.chains import Chains
from newsbooks.errors import BadWord, TooMany
from newsbooks.journals import DEED_WORDS, MOST_ENTRIES, deed_lot, is_vain
from newsbooks.lots import books_inside, in_lot_order, minus, plus, rest_of
from newsbooks.readings import Reading, why_none
from newsbooks.tellings import code_in, entry_comparisons, entry_holds, first_part, told_best, worlds_up_to

MOST_COMING = 10


def asked_lot(word, lot, worlds):
    """Return the lot of a deed that is asked about as an ascending tuple, and refuse what is no deed."""
    if not isinstance(word, str) or word not in DEED_WORDS:
        raise BadWord(word)
    return deed_lot(word, lot, worlds)


def more_lot(journal, word, lot):
    """Return the lot of one more deed as an ascending tuple, and refuse what is no deed or one too many."""
    asked = asked_lot(word, lot, journal.worlds)
    if len(journal.entries) >= MOST_ENTRIES:
        raise TooMany(MOST_ENTRIES)
    return asked


def possible_bests(form, lot):
    """Return the lots that pass the check to be told as the best of the lot."""
    part = first_part(form, lot)
    worlds, live, codes = part
    if not live:
        return [worlds_up_to(part, min(codes))]
    found = []
    for code in sorted(set(codes)):
        found = found + books_inside([world for world, mine in zip(worlds, codes) if mine == code])
    return found


def possible_sinks(form, lot):
    """Return lots among which are all those that pass the check of "sink" where all that is held is given up."""
    rest = rest_of(lot, form.worlds)
    number = form.block_of(rest)
    worlds, live, codes = form.blocks[number]
    earlier = tuple([world for block in form.blocks[:number] for world in block[0]])
    if not live:
        return [plus(earlier, worlds_up_to(form.blocks[number], code)) for code in sorted(set(codes))]
    fronts = [earlier] + [earlier + part for part in books_inside(minus(worlds, rest))]
    return [plus(front, best) for front in fronts for best in possible_bests(form, rest)]


def possible_answers(form, now, word, lot):
    """Return lots among which are all those that pass the check of one more entry, a deed that is not vain."""
    if word == "sink":
        return possible_sinks(form, lot)
    if word == "level":
        return [plus(now, best) for best in possible_bests(form, rest_of(lot, form.worlds))]
    return possible_bests(form, lot)


def closes_no_ring(chains, comparisons, hub):
    """Return whether comparisons that all begin or end at the hub can be put to chains that close to no ring.

    A ring passes the hub once, so it has at most one of them before it and one behind it.
    """
    before = {"<": 0, "<=": 1 << hub}
    behind = [(hub, "<=")]
    for left, sign, right in comparisons:
        if right == hub:
            before[sign] = before[sign] | 1 << left
        else:
            behind.append((right, sign))
    strict = before["<"]
    whole = strict | before["<="]
    for world, sign in behind:
        if chains.reach_masks[world] & (whole if sign == "<" else strict) or chains.strict_masks[world] & whole:
            return False
    return True


def coming_answers(journal, word, lot):
    """Return the answers that can come to a deed with an ascending lot, in lot order."""
    reading = Reading(journal)
    chains = Chains(journal.worlds, reading.comparisons)
    if reading.fallen is not None or chains.torn:
        return ()
    now = reading.nows[-1]
    if word == "back":
        standing = journal.standing()
        return (reading.nows[standing[-1]] if standing else now,)
    if is_vain(word, lot, now):
        return (now,)
    form = reading.form
    found = []
    for answer in possible_answers(form, now, word, lot):
        if entry_holds(form, now, word, lot, answer):
            _, best = told_best(form, now, word, lot, answer)
            if closes_no_ring(chains, entry_comparisons(form, now, word, lot, answer), best[0]):
                found.append(answer)
    return in_lot_order(found)


def open_worlds(word, lot, worlds):
    """Return the number of worlds of which it is open whether the answer to the deed has them."""
    if word == "sink":
        return worlds
    return worlds - len(lot) if word == "level" else len(lot)


def can_come(journal, word, lot):
    """Return all answers that can come to one more deed, in lot order."""
    asked = more_lot(journal, word, lot)
    if open_worlds(word, asked, journal.worlds) > MOST_COMING:
        raise TooMany(MOST_COMING)
    return coming_answers(journal, word, asked)


def must_come(journal, word, lot):
    """Return the only answer that can come to one more deed, or None."""
    found = coming_answers(journal, word, more_lot(journal, word, lot))
    return found[0] if len(found) == 1 else None


def may_lie(chains, part, world):
    """Return whether a world of the part of a block is in some answer; chains are those of the journal."""
    worlds, live, codes = part
    mine = code_in(part, world)
    if not live:
        return mine == min(codes)
    lesser = [other for other, code in zip(worlds, codes) if code < mine and chains.reaches(other, world)]
    return not lesser and not any([chains.strictly(other, world) for other in worlds])


def must_lie(chains, part, world):
    """Return whether a world of the part of a block is in each answer; chains are those of the journal."""
    worlds, live, codes = part
    mine = code_in(part, world)
    if not live:
        return mine == min(codes)
    lesser = [other for other, code in zip(worlds, codes) if code < mine and not chains.strictly(world, other)]
    return not lesser and all([chains.reaches(world, other) for other in worlds])


def worlds_that(journal, lot, lies):
    """Return the worlds of what is asked that lie in answers as lies tells; () if no rank gives the journal."""
    asked = more_lot(journal, "ask", lot)
    reading = Reading(journal)
    chains = Chains(journal.worlds, reading.comparisons)
    if reading.fallen is not None or chains.torn:
        return ()
    part = first_part(reading.form, asked)
    return tuple([world for world in part[0] if lies(chains, part, world)])


def come_some(journal, lot):
    """Return the worlds that are in some answer that can come to what is asked."""
    return worlds_that(journal, lot, may_lie)


def come_all(journal, lot):
    """Return the worlds that are in each answer that can come to what is asked."""
    return worlds_that(journal, lot, must_lie)


def why_not(journal, word, lot, answer):
    """Return a reason why no rank gives the journal with this entry, or None if some rank does."""
    return why_none(journal.with_entry(word, lot, answer))
