"""Which variables of a flow need different homes, and which ones need homes that last."""

from sameruns.middle.deeds import assigns
from sameruns.middle.masks import mask_of, members
from sameruns.middle.reaching import reached
from sameruns.middle.wanted import first_masks, mask_before, masks_behind


class Needs:
    """For each variable of a flow the mask of those that it meets, and the mask of those wanted behind a call."""

    def __init__(self, flow):
        self.meeting = [0] * flow.count
        self.lasting = 0
        firsts = first_masks(flow, mask_before)
        self.part_all(mask_of(flow.params) | firsts[0])
        for number in reached(flow):
            block = flow.blocks[number]
            for deed, behind in zip(block, masks_behind(block, firsts, mask_before)):
                self.look_at_deed(deed, behind)
        for block in flow.blocks:
            for deed in block:
                if deed[0] == "moves":
                    self.part_all(mask_of(deed[1]))

    def part(self, variable, others):
        """Let a variable meet each one of a mask but itself."""
        added = others & ~(1 << variable) & ~self.meeting[variable]
        self.meeting[variable] |= added
        for other in members(added):
            self.meeting[other] |= 1 << variable

    def part_all(self, mask):
        """Let all variables of a mask meet each other."""
        for variable in members(mask):
            self.part(variable, mask)

    def look_at_deed(self, deed, behind):
        """Let what a deed assigns meet what else is wanted behind it."""
        others = behind & ~mask_of(assigns(deed))
        for variable, source in moved_by(deed):
            self.part(variable, others & ~mask_of(source))
        if deed[0] == "call":
            self.lasting |= others


def moved_by(deed):
    """Return a list of tuples (variable, source): what a deed assigns, and the tuple of the variable it is got from."""
    if deed[0] == "moves":
        return [(d, (a,)) for d, a in zip(deed[1], deed[2])]
    source = (deed[2],) if deed[0] == "copy" else ()
    return [(variable, source) for variable in assigns(deed)]
