"""Choosing homes."""

from sameruns.homes.cells import FIRST_SLOT, LOST, free_registers
from sameruns.homes.meeting import Needs
from sameruns.middle.masks import members


def choose(flow, free):
    """Return homes for the variables of a flow that fit and have no needless slot."""
    registers = free_registers(free)
    needs = Needs(flow)
    homes = []
    for variable in range(flow.count):
        # Only the variables before this one have homes yet.
        met = members(needs.meeting[variable] & ((1 << variable) - 1))
        taken = {homes[other]: True for other in met}
        if needs.lasting >> variable & 1:
            taken.update({lost: True for lost in LOST})
        homes.append(first_home(registers, taken))
    return tuple(homes)


def first_home(registers, taken):
    """Return the first register that is not taken, or else the first slot."""
    for number in registers:
        if number not in taken:
            return number
    slot = FIRST_SLOT
    while slot in taken:
        slot += 1
    return slot
