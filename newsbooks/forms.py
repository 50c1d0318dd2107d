"""Forms: what is known of the store behind a journal, whatever rank it began as."""

from newsbooks.checks import check_same_worlds
from newsbooks.journals import deed_lot, is_vain
from newsbooks.lots import every, lot_of, meets, rest_of
from newsbooks.ranks import Rank
from newsbooks.turning import check_word


def block_part(block, lot):
    """Return the part of the block inside the lot, as a block, or as one without worlds."""
    worlds, live, codes = block
    kept = [(world, code) for world, code in zip(worlds, codes) if world in lot]
    return (tuple([world for world, _ in kept]), live, tuple([code for _, code in kept]))


def block_parts(blocks, lot):
    """Return the list of the parts of the blocks inside the lot, without those that have no worlds."""
    return [part for part in [block_part(block, lot) for block in blocks] if part[0]]


def leaned_block(block, lot):
    """Return the block with its codes doubled, and one more for the worlds outside the lot."""
    worlds, live, codes = block
    return (worlds, live, [2 * code + (0 if world in lot else 1) for world, code in zip(worlds, codes)])


class Form:
    """A form: live and flat blocks of worlds, each world with a code."""

    def __init__(self, worlds, blocks):
        self.worlds = worlds
        self.blocks = tuple([(tuple(lot), live, tuple(codes)) for lot, live, codes in blocks])

    @classmethod
    def at_start(cls, worlds):
        """Return the form of one live block without unlike codes."""
        return cls(worlds, [(every(worlds), True, (0,) * worlds)])

    def block_of(self, lot):
        """Return the number of the first block that meets the lot."""
        asked = lot_of(lot, self.worlds, empty=False)
        return [number for number, block in enumerate(self.blocks) if meets(block[0], asked)][0]

    def means(self, rank):
        """Return the rank that the form means, begun at this rank."""
        check_same_worlds(self, rank)
        cells = []
        for lot, live, codes in self.blocks:
            keys = [(rank.levels[world] if live else 0, code) for world, code in zip(lot, codes)]
            for key in sorted(set(keys)):
                cells.append([world for world, mine in zip(lot, keys) if mine == key])
        return Rank(cells)

    def next_form(self, word, lot, answer, held):
        """Return the form behind an entry; held is what is held ahead of it."""
        check_word(word)
        asked = deed_lot(word, lot, self.worlds)
        front = lot_of(answer, self.worlds, empty=False)
        now = lot_of(held, self.worlds, empty=False)
        if word == "ask" or is_vain(word, asked, now):
            return self
        if word == "lead":
            rest = rest_of(asked, self.worlds)
            return Form(self.worlds, block_parts(self.blocks, asked) + block_parts(self.blocks, rest))
        others = block_parts(self.blocks, rest_of(front, self.worlds))
        if word == "lean":
            others = [leaned_block(block, asked) for block in others]
        return Form(self.worlds, [(front, False, (0,) * len(front))] + others)

    def __eq__(self, other):
        return isinstance(other, Form) and self.worlds == other.worlds and self.blocks == other.blocks
