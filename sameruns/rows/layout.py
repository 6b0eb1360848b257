"""Where things lie in the part of the stack of a function."""

from sameruns.homes.cells import FIRST_SLOT, LOST
from sameruns.middle.deeds import assigns, reads
from sameruns.middle.reaching import reached

CELL = 4


class Layout:
    """The offsets, from the stack pointer on, of the slots, the local arrays and the registers that are stored."""

    def __init__(self, flow):
        end = CELL * (flow.count - FIRST_SLOT)
        self.row_offsets = []
        for length in flow.arrays:
            self.row_offsets.append(end)
            end += CELL * length
        # The kept registers that the function uses, each with the offset where its word is stored meanwhile.
        self.stored = []
        for number in used_kept(flow):
            self.stored.append((number, end))
            end += CELL
        # The return address lies in the last cell.
        self.frame = end + CELL

    def offset(self, slot):
        """Return the offset of a slot."""
        return CELL * (slot - FIRST_SLOT)

    def array_offset(self, number):
        """Return the offset of the first item of a local array."""
        return self.row_offsets[number]


def used_kept(flow):
    """Return the ascending list of the kept registers that are parameters or occur in a reached block."""
    used = {param: True for param in flow.params}
    for number in reached(flow):
        for deed in flow.blocks[number]:
            used.update({variable: True for variable in (*reads(deed), *assigns(deed))})
    return [variable for variable in sorted(used) if variable < FIRST_SLOT and variable not in LOST]
