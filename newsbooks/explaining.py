"""Reasons for what a desk says, and a listing of it."""

from newsbooks.chains import Chains
from newsbooks.desks import journal_told
from newsbooks.folds import fold, led_row
from newsbooks.lots import every, lot_of
from newsbooks.ranktexts import cell_text, rank_text
from newsbooks.readings import Reading, steps_read, why_none
from newsbooks.tellings import code_in


def why_not_held(desk, word, lot, answer):
    """Return a reason why the desk would not be told the entry, or None if it would."""
    return why_none(journal_told(desk, word, lot, answer))


class Reasons:
    """The chains of the comparisons of a journal read, as steps."""

    def __init__(self, reading):
        self.steps = steps_read(reading)
        self.chains = Chains(reading.journal.worlds, reading.comparisons)

    def told(self, places):
        """Return the steps at these places, None for None."""
        return None if places is None else tuple([self.steps[place] for place in places])

    def between(self, one, other):
        """Return a chain with the fewest steps, or None."""
        return self.told(self.chains.chain(one, other))

    def strictly_between(self, one, other):
        """Return a strict chain with the fewest steps, or None."""
        return self.told(self.chains.strict_chain(one, other))


def chain_for(desk, one, other):
    """Return a chain of the journal with the fewest comparisons from one world to the other, or None."""
    return Reasons(Reading(desk.journal)).between(one, other)


def reason_for(reasons, block, answer, world):
    """Return the world with the chains that show how it stands to the answer; block is the first one asked."""
    worlds, live, _ = block
    least = answer[0]
    if not live or world not in worlds:
        return (world, (), ())
    if world in answer:
        return (world, reasons.between(least, world), reasons.between(world, least))
    if code_in(block, world) > code_in(block, least):
        return (world, reasons.between(least, world), ())
    return (world, reasons.strictly_between(least, world), ())


def why_sure(desk, lot):
    """Return chains that show why the answer must come when the lot is asked, or None if none must come."""
    answer = desk.must("ask", lot)
    if answer is None:
        return None
    asked = lot_of(lot, desk.worlds)
    reading = Reading(desk.journal)
    reasons = Reasons(reading)
    block = reading.form.blocks[reading.form.block_of(asked)]
    return tuple([reason_for(reasons, block, answer, world) for world in asked if world != answer[0]])


def taken_reason(rank, news):
    """Return what is held by the rank led by the news, and the places of the pieces taken for it."""
    _, places = fold(news, rank.worlds, every(rank.worlds))
    return (led_row(rank, news).held, places)


def lot_words(lot):
    """Return the worlds of the lot parted by one blank."""
    return cell_text(lot) if lot else "-"


def listing(desk):
    """Return lines of text: what was held at the beginning, the entries, and the least rank that gives the journal."""
    journal = desk.journal
    lines = [f"held {lot_words(journal.beginning)}"]
    for place, (word, lot, answer) in enumerate(journal.entries):
        lines.append(f"{place:>4} {word} {lot_words(lot)} -> {lot_words(answer)}")
    return tuple(lines + [f"least {rank_text(desk.least())}"])
