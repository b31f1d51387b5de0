"""Lots of numbered things as masks: the least ones among them, and those that cross others."""


def least_of(masks):
    """Those of some masks that have no other one of them within, each once."""
    least = []
    # What lies within a mask is a smaller number, so it stands ahead.
    for mask in sorted(set(masks)):
        if all([mask & less != less for less in least]):
            least.append(mask)
    return least


def crossing_masks(masks):
    """The least masks that have a bit in common with each one of some masks."""
    found = [0]
    for mask in least_of(masks):
        met = [one for one in found if one & mask != 0]
        more = [one | bit for one in found if one & mask == 0 for bit in bits_of(mask)]
        found = least_of(met + more)
    return found


def bits_of(mask):
    return [1 << at for at in range(mask.bit_length()) if mask >> at & 1]
