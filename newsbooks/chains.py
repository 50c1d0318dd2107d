"""Chains of comparisons, and the rings to which they close."""

from newsbooks.checks import check_world, is_integer, is_row, is_within
from newsbooks.comparisons import comparisons_of


def reach_from(worlds, comparisons):
    """Return for each world the mask of the worlds to which chains lead from it."""
    masks = [1 << world for world in range(worlds)]
    for left, _, right in comparisons:
        masks[left] = masks[left] | 1 << right
    for between in range(worlds):
        for world in range(worlds):
            if masks[world] >> between & 1:
                masks[world] = masks[world] | masks[between]
    return masks


def strict_reach_from(worlds, comparisons, reach):
    """Return for each world the mask of the worlds to which strict chains lead from it."""
    masks = [0] * worlds
    for left, sign, right in comparisons:
        for world in range(worlds):
            if sign == "<" and reach[world] >> left & 1:
                masks[world] = masks[world] | reach[right]
    return masks


def steps_from(worlds, comparisons):
    """Return for each world the list of the comparisons that begin there, as (place, sign, right)."""
    steps = [[] for _ in range(worlds)]
    for place, (left, sign, right) in enumerate(comparisons):
        steps[left].append((place, sign, right))
    return steps


def shortest_chain(steps, one, other, strict):
    """Return a chain with the fewest places from one to other, or None.

    A state is a world together with whether a strict step, where one is asked for, lies behind.
    """
    goal = (other, strict)
    chains = {(one, False): ()}
    queue = [(one, False)]
    at = 0
    while goal not in chains and at < len(queue):
        world, passed = queue[at]
        chain = chains[queue[at]]
        at += 1
        for place, sign, right in steps[world]:
            state = (right, passed or (strict and sign == "<"))
            if state not in chains:
                chains[state] = chain + (place,)
                queue.append(state)
    return chains.get(goal)


class Chains:
    """The chains of one list of comparisons."""

    def __init__(self, worlds, comparisons):
        self.comparisons = comparisons_of(comparisons, worlds)
        self.worlds = worlds
        self.reach_masks = tuple(reach_from(worlds, self.comparisons))
        self.strict_masks = tuple(strict_reach_from(worlds, self.comparisons, self.reach_masks))

    @property
    def torn(self):
        """Whether a strict chain leads from some world to itself."""
        return any([self.strict_masks[world] >> world & 1 for world in range(self.worlds)])

    def check_pair(self, one, other):
        """Refuse all but two worlds."""
        check_world(one, self.worlds, "one")
        check_world(other, self.worlds, "other")

    def reaches(self, one, other):
        """Return whether a chain leads from one to other."""
        self.check_pair(one, other)
        return self.reach_masks[one] >> other & 1 == 1

    def strictly(self, one, other):
        """Return whether a strict chain leads from one to other."""
        self.check_pair(one, other)
        return self.strict_masks[one] >> other & 1 == 1

    def chain(self, one, other):
        """Return a chain from one to other with the fewest places, or None."""
        self.check_pair(one, other)
        return shortest_chain(steps_from(self.worlds, self.comparisons), one, other, False)

    def strict_chain(self, one, other):
        """Return a strict chain from one to other with the fewest places, or None."""
        self.check_pair(one, other)
        return shortest_chain(steps_from(self.worlds, self.comparisons), one, other, True)

    def alike_lots(self):
        """Return the lots of the worlds with chains both ways, by their least worlds."""
        lots = {}
        for world, mask in enumerate(self.reach_masks):
            lots[mask] = lots.get(mask, ()) + (world,)
        return tuple(lots.values())


def ring_of(worlds, comparisons):
    """Return a ring with the fewest places, or None."""
    chains = Chains(worlds, comparisons)
    found = [chains.strict_chain(world, world) for world in range(worlds)]
    # The shortest of all strict chains from a world to itself begins nowhere twice:
    # else it would come apart into two shorter ones, one of them strict.
    return min([ring for ring in found if ring is not None], key=len, default=None)


def is_ring(worlds, comparisons, ring):
    """Return whether ring is a list or tuple of places that are a ring."""
    told = comparisons_of(comparisons, worlds)
    if not is_row(ring) or not all([is_within(place, 0, len(told) - 1) for place in ring]):
        return False
    return closes([told[place] for place in ring])


def closes(steps):
    """Return whether these comparisons, in this order, are a ring."""
    lefts = [left for left, _, _ in steps]
    rights = [right for _, _, right in steps]
    if rights != lefts[1:] + lefts[:1] or len(set(lefts)) < len(lefts):
        return False
    return any([sign == "<" for _, sign, _ in steps])


def is_step(step):
    """Return whether this has the form of a step: a source, a world, a sign and a world."""
    if not is_row(step) or len(step) != 4:
        return False
    source, left, sign, right = step
    return is_integer(source) and is_integer(left) and isinstance(sign, str) and is_integer(right)


def are_closing(steps, known):
    """Return whether steps is a list or tuple of known steps whose comparisons, in this order, are a ring."""
    if not is_row(steps) or not all([is_step(step) and tuple(step) in known for step in steps]):
        return False
    return closes([(left, sign, right) for _, left, sign, right in steps])
