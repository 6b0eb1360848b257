"""The pass that lays called flows in the place of their calls."""

from sameruns.basics.errors import BadSite
from sameruns.middle.deeds import SHAPES
from sameruns.middle.flows import MOST_PLACES
from sameruns.middle.wanted import wanted
from sameruns.papers.laying import laid_in_place

MOST_VARIABLES = 320
MOST_BLOCKS = 120
MOST_DEEDS = 400


def can_lay(flow):
    """Return True if a flow can be laid in the place of its calls."""
    if flow.arrays or calls_of(flow):
        return False
    return all([variable in flow.params for variable in wanted(flow)[0]])


def calls_of(flow):
    """Return a list of the tuples (block, position) of the calls of a flow, in order."""
    found = []
    for number, block in enumerate(flow.blocks):
        for position, deed in enumerate(block):
            if deed[0] == "call":
                found.append((number, position))
    return found


def layable(flows):
    """Return a dict with those of the flows that can be laid in, by their names."""
    return {flow.name: flow for flow in flows if can_lay(flow)}


def called_from(flow, place):
    """Return the name of the flow that is called at a place (block, position)."""
    number, position = place
    return flow.blocks[number][position][2]


def laid_at(flow, flows, sites):
    """Return the flow laid at its sites."""
    can = layable(flows)
    index = wrong_site(flow, can, sites)
    if index is not None:
        raise BadSite(index)
    for done, site in enumerate(sites):
        # What was laid before has no calls, so each site before this one leaves one call less in front of it.
        flow = laid_once(flow, can, site - done)
    return flow


def wrong_site(flow, can, sites):
    """Return the least index of a site that does not ascend or is no call that can be laid in place, or None."""
    calls = calls_of(flow)
    for index, site in enumerate(sites):
        if index > 0 and site <= sites[index - 1]:
            return index
        if not 0 <= site < len(calls) or called_from(flow, calls[site]) not in can:
            return index
    return None


def laid_once(flow, can, site):
    """Return the flow with the call with this number laid in place."""
    number, position = calls_of(flow)[site]
    return laid_in_place(flow, number, position, can[called_from(flow, (number, position))])


def laid(flow, flows):
    """Return the tuple of the flow, laid at as many sites as fit its bounds, and the tuple of these sites."""
    can = layable(flows)
    sites = []
    result_flow = flow
    for site, (number, position) in enumerate(calls_of(flow)):
        call = flow.blocks[number][position]
        if call[2] in can and len(call[4]) + longest_chain(can[call[2]]) <= MOST_PLACES:
            grown = laid_once(result_flow, can, site - len(sites))
            if is_small(grown):
                result_flow = grown
                sites.append(site)
    return (result_flow, tuple(sites))


def longest_chain(flow):
    """Return the greatest number of places in a chain of a flow."""
    chains = [
        entry for block in flow.blocks for deed in block
        for kind, entry in zip(SHAPES[deed[0]], deed[1:]) if kind == "at"
    ]
    return max([len(chain) for chain in chains], default=0)


def is_small(flow):
    """Return True if a flow is within the bounds up to which calls are laid in place."""
    deeds = sum([len(block) for block in flow.blocks])
    return flow.count <= MOST_VARIABLES and len(flow.blocks) <= MOST_BLOCKS and deeds <= MOST_DEEDS
