"""Lots as masks: the bit x is set if the world x is in the lot."""


def mask_of(lot):
    """Return the mask of the lot."""
    mask = 0
    for world in lot:
        mask = mask | 1 << world
    return mask


def lot_in(mask):
    """Return the lot of the mask."""
    return tuple([world for world in range(mask.bit_length()) if mask >> world & 1])


def unions_of(masks):
    """Return for each lot of worlds, by its own mask, the union of the masks of its worlds."""
    unions = [0]
    for mask in masks:
        unions = unions + [union | mask for union in unions]
    return unions
