"""Lots of numbered things as masks: the least ones among them, and those that cross others."""


def least_of(masks):
    """Those of some masks that have no other one of them within, each once."""
    least = []
    # What lies within a mask is a smaller number, so it stands ahead.
    for mask in sorted(set(masks)):
        if all([mask & less != less for less in least]):
            least.append(mask)
    return least


def crossing_masks(masks):
    """The least masks that have a bit in common with each one of some masks."""
    found = [0]
    for mask in least_of(masks):
        met = [one for one in found if one & mask != 0]
        more = [one | bit for one in found if one & mask == 0 for bit in bits_of(mask)]
        found = least_of(met + more)
    return found


def bits_of(mask):
    return [1 << at for at in range(mask.bit_length()) if mask >> at & 1]


def first_crossing(masks):
    """The first, in Python's order, of the shortest ascending lists of numbers of bits that cross all masks.

    None of the masks is empty.
    """
    masks = least_of(masks)
    many = 0
    while not can_cross(masks, many):
        many += 1
    found = []
    number = 0
    while len(masks) > 0:
        # The numbers from here on alone can still be taken, as those ahead have been tried.
        further = [(mask >> (number + 1)) << (number + 1) for mask in masks if not mask >> number & 1]
        if can_cross(least_of(further), many - 1):
            found.append(number)
            masks = further
            many -= 1
        number += 1
    return found


def can_cross(masks, many):
    """Whether so many bits can be found that each mask has one of them; the masks are least ones."""
    if len(masks) == 0:
        return True
    if many == 0 or masks[0] == 0 or len(apart_among(masks)) > many:
        return False
    fewest = min(masks, key=how_many_bits)
    for bit in bits_of(fewest):
        if can_cross([mask for mask in masks if mask & bit == 0], many - 1):
            return True
        # Without this bit, then, as it has been tried.
        masks = least_of([mask & ~bit for mask in masks])
    return False


def apart_among(masks):
    """Some masks, small ones first, no two of which have a bit in common: each of them takes a bit of its own."""
    found = []
    taken = 0
    for mask in sorted(masks, key=how_many_bits):
        if mask & taken == 0:
            found.append(mask)
            taken |= mask
    return found


def how_many_bits(mask):
    many = 0
    while mask > 0:
        mask &= mask - 1
        many += 1
    return many
