"""Which variables are wanted at which places of a flow."""

from sameruns.middle.deeds import assigns, reads, targets
from sameruns.middle.masks import mask_of, members
from sameruns.middle.reaching import sources_of


def wanted(flow):
    """Return a tuple with the ascending tuple of the variables that are wanted at the beginning of each block."""
    return tuple([members(mask) for mask in first_masks(flow, mask_before)])


def wanted_behind(flow, block):
    """Return a tuple with the ascending tuple of the variables that are wanted behind each deed of a block."""
    masks = masks_behind(flow.blocks[block], first_masks(flow, mask_before), mask_before)
    return tuple([members(mask) for mask in masks])


def mask_before(deed, behind):
    """Return the mask of what is wanted before a deed from that of what is wanted behind it."""
    return (behind & ~mask_of(assigns(deed))) | mask_of(reads(deed))


def mask_at_end(block, firsts):
    """Return the mask of what is wanted behind the end of a block, from those at the beginnings of the blocks."""
    mask = 0
    for target in targets(block[-1]):
        mask |= firsts[target]
    return mask


def masks_behind(block, firsts, before):
    """Return a list with the mask of what is wanted behind each deed of a block."""
    mask = mask_at_end(block, firsts)
    found = []
    for deed in reversed(block):
        found.append(mask)
        mask = before(deed, mask)
    return found[::-1]


def first_masks(flow, before):
    """Return a list with the least masks at the beginnings of the blocks that the function before gives.

    It goes back over one deed: before(deed, mask) is the mask before the deed if the mask behind it is this one.
    """
    sources = sources_of(flow)
    firsts = [0] * len(flow.blocks)
    waiting = [True] * len(flow.blocks)
    while any(waiting):
        for number in reversed(range(len(flow.blocks))):
            if not waiting[number]:
                continue
            waiting[number] = False
            mask = mask_at_end(flow.blocks[number], firsts)
            for deed in reversed(flow.blocks[number]):
                mask = before(deed, mask)
            if mask != firsts[number]:
                firsts[number] = mask
                for source in sources[number]:
                    waiting[source] = True
    return firsts
