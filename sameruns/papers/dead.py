"""The pass that leaves out what nothing needs."""

from sameruns.middle.deeds import assigns, is_plain
from sameruns.middle.flows import Flow
from sameruns.middle.masks import mask_of
from sameruns.middle.wanted import first_masks, mask_before, masks_behind
from sameruns.papers.drafts import as_it_is, drafted
from sameruns.papers.judge import Paper


def dead(flow):
    """Return the tuple of the after flow and the paper of this pass."""
    firsts = first_masks(flow, needed_before)
    after_blocks = []
    for block in flow.blocks:
        masks = masks_behind(block, firsts, needed_before)
        after_blocks.append(tuple([trimmed(deed, mask) for deed, mask in zip(block, masks)]))
    blocks, entries = drafted(flow, after_blocks, as_it_is)
    return (Flow(flow.name, flow.params, flow.count, flow.arrays, blocks), Paper((), entries))


def needed_before(deed, behind):
    """Return the mask of what is needed before a deed, of which only what is needed behind it is done.

    So a variable that is needed only for itself, around a loop, is not needed.
    """
    return mask_before(trimmed(deed, behind), behind)


def trimmed(deed, behind):
    """Return the deed that does of a plain deed only what is needed behind it."""
    if not is_plain(deed):
        return deed
    if not mask_of(assigns(deed)) & behind:
        return ("skip",)
    if deed[0] != "moves":
        return deed
    pairs = [(d, a) for d, a in zip(deed[1], deed[2]) if behind >> d & 1]
    return ("moves", tuple([d for d, _ in pairs]), tuple([a for _, a in pairs]))
