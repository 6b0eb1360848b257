"""Sets of variables as integers: the bit with the number of each variable is set."""


def mask_of(variables):
    """Return the mask of some variables."""
    mask = 0
    for variable in variables:
        mask |= 1 << variable
    return mask


def members(mask):
    """Return the ascending tuple of the variables of a mask."""
    found = []
    while mask:
        lowest = mask & -mask
        found.append(lowest.bit_length() - 1)
        mask ^= lowest
    return tuple(found)
