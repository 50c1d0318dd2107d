"""What one entry of a journal tells at a form: its check, and its comparisons."""

from newsbooks.cases import alike_comparisons
from newsbooks.forms import block_part
from newsbooks.journals import GIVE_WORDS, is_vain
from newsbooks.lots import common, inside, meets, minus, rest_of

# Here now is what is held ahead of the entry, and the word is not "back".


def first_part(form, lot):
    """Return the part inside the lot, as a block, of the first block that meets it."""
    return block_part(form.blocks[form.block_of(lot)], lot)


def code_in(block, world):
    """Return the code of a world of the block."""
    worlds, _, codes = block
    return codes[worlds.index(world)]


def worlds_up_to(block, code):
    """Return the worlds of the block whose code is at most this one."""
    worlds, _, codes = block
    return tuple([world for world, mine in zip(worlds, codes) if mine <= code])


def can_be_best(form, lot, best):
    """Return whether the check holds for best to be told as the best of the lot."""
    part = first_part(form, lot)
    worlds, live, codes = part
    if not best or not inside(best, worlds):
        return False
    if not live:
        return best == worlds_up_to(part, min(codes))
    return len(set([code_in(part, world) for world in best])) == 1


def best_comparisons(form, lot, best):
    """Return the list of the comparisons for best to be told as the best of the lot."""
    part = first_part(form, lot)
    worlds, live, _ = part
    if not live:
        return []
    least = best[0]
    code = code_in(part, least)
    behind = [(least, "<=" if code_in(part, world) > code else "<", world) for world in minus(worlds, best)]
    return alike_comparisons(best) + behind


def told_best(form, now, word, lot, answer):
    """Return the lot of which the entry tells the best, and this best."""
    if word not in GIVE_WORDS:
        return (lot, answer)
    rest = rest_of(lot, form.worlds)
    return (rest, minus(answer, now) if word == "level" else common(answer, rest))


def sinks_to(form, now, rest, best, answer):
    """Return whether the answer has what is held and, as far as it can be seen, what is not behind the best."""
    number = form.block_of(rest)
    earlier = [world for block in form.blocks[:number] for world in block[0]]
    later = [world for block in form.blocks[number + 1:] for world in block[0]]
    if not inside(now, answer) or not inside(earlier, answer) or meets(later, answer):
        return False
    block = form.blocks[number]
    worlds, live, _ = block
    return live or common(answer, worlds) == worlds_up_to(block, code_in(block, best[0]))


def sink_comparisons(form, rest, best, answer):
    """Return the list of the comparisons of the best with the worlds of its block that are given up."""
    block = form.blocks[form.block_of(rest)]
    worlds, live, _ = block
    least = best[0]
    code = code_in(block, least)
    found = []
    given = minus(worlds, rest) if live else ()
    for world in given:
        behind = code_in(block, world) > code
        if world in answer:
            found.append((world, "<" if behind else "<=", least))
        else:
            found.append((least, "<=" if behind else "<", world))
    return found


def entry_holds(form, now, word, lot, answer):
    """Return whether the check of the entry holds."""
    if is_vain(word, lot, now):
        return answer == now
    asked, best = told_best(form, now, word, lot, answer)
    if not can_be_best(form, asked, best):
        return False
    if word == "level":
        return inside(now, answer)
    return word != "sink" or sinks_to(form, now, asked, best, answer)


def entry_comparisons(form, now, word, lot, answer):
    """Return the list of the comparisons of an entry whose check holds."""
    if is_vain(word, lot, now):
        return []
    asked, best = told_best(form, now, word, lot, answer)
    found = best_comparisons(form, asked, best)
    return found + sink_comparisons(form, asked, best, answer) if word == "sink" else found
