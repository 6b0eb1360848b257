"""Laying one call in place."""

from sameruns.middle.changing import with_outer_chain, with_targets, with_variables
from sameruns.middle.flows import Flow


class Laying:
    """Where a called flow is laid: in the place of which call, and from which variable and block on."""

    def __init__(self, flow, number, position, called):
        self.call = flow.blocks[number][position]
        self.params = called.params
        self.first = flow.count
        self.start = number + 1
        self.behind = number + 1 + len(called.blocks)

    def moved_outer(self, block):
        """Return the deeds of a block of the calling flow, whose blocks behind the call move on."""
        added = self.behind - self.start + 1
        return [with_targets(deed, lambda target: target if target < self.start else target + added) for deed in block]

    def opening(self):
        """Return a list of the deeds that stand for the call."""
        deeds = [("depth", 1, self.call[4])]
        if self.params:
            deeds.append(("moves", tuple([param + self.first for param in self.params]), self.call[3]))
        return [*deeds, ("jump", self.start)]

    def inner_deeds(self, deed):
        """Return a list of the deeds that stand for a deed of the called flow."""
        if deed[0] == "back":
            return [("copy", self.call[1], deed[1] + self.first), ("jump", self.behind)]
        laid_deed = with_outer_chain(with_variables(deed, lambda variable: variable + self.first), self.call[4])
        if deed[0] == "depth":
            # The function that is laid in place no longer counts as an open one.
            return [("depth", deed[1] + 1, laid_deed[2])]
        return [with_targets(laid_deed, lambda target: target + self.start)]


def laid_in_place(flow, number, position, called):
    """Return the flow with the called flow laid in the place of the call at a position of a block."""
    laying = Laying(flow, number, position, called)
    outer = [laying.moved_outer(block) for block in flow.blocks]
    inner = [[row for deed in block for row in laying.inner_deeds(deed)] for block in called.blocks]
    opened = outer[number][:position] + laying.opening()
    blocks = [*outer[:number], opened, *inner, outer[number][position + 1:], *outer[number + 1:]]
    return Flow(flow.name, flow.params, flow.count + called.count, flow.arrays, tuple(blocks))
