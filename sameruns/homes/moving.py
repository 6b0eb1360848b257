"""Doing several moves one after another as if they were done at once."""


def in_turn(pairs, spare):
    """Return a list of the moves (target, source) that do all pairs at once, with a spare cell for the rings."""
    sources = {target: source for target, source in pairs if target != source}
    readers = {}
    for source in sources.values():
        readers[source] = readers.get(source, 0) + 1
    done = []
    ready = [target for target in sources if target not in readers]
    while ready:
        target = ready.pop()
        source = sources.pop(target)
        done.append((target, source))
        readers[source] -= 1
        if readers[source] == 0 and source in sources:
            ready.append(source)
    # Each target that is left is read by just one other one, so only rings are left.
    for first in list(sources):
        if first in sources:
            done.extend(moves_of_ring(taken_ring(sources, first), spare))
    return done


def taken_ring(sources, first):
    """Take the ring with this cell out of the sources; return a list of its cells, each one before its source."""
    ring = []
    cell = first
    while cell in sources:
        ring.append(cell)
        cell = sources.pop(cell)
    return ring


def moves_of_ring(ring, spare):
    """Return a list of the moves that do a ring."""
    return [(spare, ring[0]), *list(zip(ring, [*ring[1:], spare]))]
