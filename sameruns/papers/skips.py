"""Putting skips into flows and taking them out."""

from sameruns.basics.errors import BadSpot
from sameruns.middle.flows import Flow

SKIP = ("skip",)


def padded(flow, spots):
    """Return the flow with one more skip in front of the deed at each spot."""
    index = wrong_spot(flow, spots)
    if index is not None:
        raise BadSpot(index)
    many = {}
    for spot in spots:
        many[spot] = many.get(spot, 0) + 1
    blocks = []
    for number, block in enumerate(flow.blocks):
        deeds = []
        for position, deed in enumerate(block):
            deeds.extend([SKIP] * many.get((number, position), 0))
            deeds.append(deed)
        blocks.append(tuple(deeds))
    return Flow(flow.name, flow.params, flow.count, flow.arrays, tuple(blocks))


def wrong_spot(flow, spots):
    """Return the least index of a spot that is no spot of the flow or less than the one before it, or None."""
    for index, spot in enumerate(spots):
        block, position = spot
        if not (0 <= block < len(flow.blocks) and 0 <= position < len(flow.blocks[block])):
            return index
        if index > 0 and spot < spots[index - 1]:
            return index
    return None


def swept(flow):
    """Return the flow without its skips."""
    blocks = [tuple([deed for deed in block if deed != SKIP]) for block in flow.blocks]
    return Flow(flow.name, flow.params, flow.count, flow.arrays, tuple(blocks))
