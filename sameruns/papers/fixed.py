"""Loops, and the pass that does in front of a loop what never changes in it."""

from sameruns.middle.deeds import assigns, reads
from sameruns.middle.flows import Flow
from sameruns.middle.masks import mask_of
from sameruns.middle.reaching import targets_of
from sameruns.papers.drafts import as_it_is, drafted
from sameruns.papers.judge import Paper
from sameruns.papers.skips import padded

MOST_VARIABLES = 320


def loops(flow):
    """Return a list of tuples (head, last, simple) for the loops of a flow, heads ascending."""
    ways = targets_of(flow)
    lasts = last_blocks(flow)
    return [(head, lasts[head], is_simple(flow, ways, lasts, head)) for head in sorted(lasts)]


def last_blocks(flow):
    """Return a dict with the last block of the region for the head of each loop."""
    lasts = {}
    for number, block in enumerate(flow.blocks):
        end = block[-1]
        if end[0] == "jump" and end[1] <= number:
            lasts[end[1]] = number
    return lasts


def is_simple(flow, ways, lasts, head):
    """Return True if the loop with this head is entered from one block in front of it, and from nowhere else."""
    last = lasts[head]
    outside = [number for number in range(len(ways)) if not head <= number <= last]
    entering = [number for number in outside if head in ways[number]]
    # A block behind the head that ends with a jump to it is never outside of the region.
    if len(entering) != 1 or flow.blocks[entering[0]][-1] != ("jump", head):
        return False
    for other, other_last in lasts.items():
        if other <= entering[0] <= other_last and not other <= head <= other_last:
            return False
    return not any([head < target <= last for number in outside for target in ways[number]])


class Mover:
    """A flow whose deeds are moved in front of its loops."""

    def __init__(self, flow):
        self.blocks = [list(block) for block in flow.blocks]
        self.count = flow.count
        # For each new variable the number of the block at whose end it is assigned.
        self.fronts = []

    def move_out(self, head, last):
        """Move what never changes in the region of a simple loop to the end of the block in front of it."""
        entering = [number for number in range(head) if self.blocks[number][-1] == ("jump", head)]
        front = entering[0]
        changing = mask_of([v for block in self.blocks[head:last + 1] for deed in block for v in assigns(deed)])
        moved = {}
        for number in range(head, last + 1):
            for position, deed in enumerate(list(self.blocks[number])):
                if deed[0] in ("op", "with") and not mask_of(reads(deed)) & changing:
                    variable = self.variable_for(deed, moved, front)
                    if variable is not None:
                        self.blocks[number][position] = ("copy", deed[1], variable)

    def variable_for(self, deed, moved, front):
        """Return the new variable for a deed, the same one for all that do the same, or None if there are too many."""
        done = (deed[0], *deed[2:])
        if done not in moved:
            if self.count >= MOST_VARIABLES:
                return None
            moved[done] = self.count
            self.blocks[front].insert(-1, (deed[0], self.count, *deed[2:]))
            self.fronts.append(front)
            self.count += 1
        return moved[done]


def fixed(flow):
    """Return the tuple of the after flow and the paper of this pass."""
    mover = Mover(flow)
    # The outer loop comes first, so what is moved in front of an inner one cannot be moved further.
    for head, last, simple in loops(flow):
        if simple:
            mover.move_out(head, last)
    spots = tuple(sorted([(number, len(flow.blocks[number]) - 1) for number in mover.fronts]))
    blocks, entries = drafted(padded(flow, spots), mover.blocks, as_it_is)
    return (Flow(flow.name, flow.params, mover.count, flow.arrays, blocks), Paper(spots, entries))
