"""Putting homes in the place of variables."""

from sameruns.homes.cells import FIRST_SLOT
from sameruns.middle.changing import with_variables
from sameruns.middle.flows import Flow


def renamed(flow, homes):
    """Return the flow with the home of each variable in its place."""
    blocks = [[with_variables(deed, lambda variable: homes[variable]) for deed in block] for block in flow.blocks]
    params = tuple([homes[param] for param in flow.params])
    count = max([FIRST_SLOT, *[home + 1 for home in homes]])
    return Flow(flow.name, params, count, flow.arrays, tuple([tuple(block) for block in blocks]))
