"""When homes fit."""

from sameruns.homes.cells import LOST, free_registers, is_slot
from sameruns.homes.meeting import Needs
from sameruns.middle.masks import members


def fits(flow, homes, free):
    """Return True if the homes of a flow fit for a number of free registers."""
    registers = free_registers(free)
    if not all([home in registers or is_slot(home) for home in homes]):
        return False
    needs = Needs(flow)
    sharing = {}
    for variable, home in enumerate(homes):
        sharing[home] = sharing.get(home, 0) | 1 << variable
    if any([needs.meeting[variable] & sharing[home] for variable, home in enumerate(homes)]):
        return False
    return not any([homes[variable] in LOST for variable in members(needs.lasting)])
