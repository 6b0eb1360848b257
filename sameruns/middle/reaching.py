"""The ways between the blocks of a flow."""

from sameruns.middle.deeds import targets


def targets_of(flow):
    """Return a list with the tuple of the blocks to which each block goes."""
    return [targets(block[-1]) for block in flow.blocks]


def sources_of(flow):
    """Return a list with the list of the blocks that go to each block."""
    found = [[] for _ in flow.blocks]
    for number, reached_from in enumerate(targets_of(flow)):
        for target in reached_from:
            found[target].append(number)
    return found


def reached(flow):
    """Return the ascending tuple of the reached blocks."""
    ways = targets_of(flow)
    found = {0: True}
    waiting = [0]
    while waiting:
        number = waiting.pop()
        for target in ways[number]:
            if target not in found:
                found[target] = True
                waiting.append(target)
    return tuple(sorted(found))
