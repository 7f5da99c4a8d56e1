"""Sets of numbers, each told by one whole number: its mask."""


def places(mask):
    return [k for k in range(mask.bit_length()) if mask >> k & 1]


def mask_of(row):
    mask = 0
    for k in row:
        mask |= 1 << k
    return mask


def many(mask):
    return len(places(mask))


def inside(mask, other):
    return mask & other == mask


def shown_set(names, mask):
    return "{" + " ".join([names[k] for k in places(mask)]) + "}"
