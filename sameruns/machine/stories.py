"""The way back from an address to the statements that are being executed."""

from sameruns.basics.words import unsigned
from sameruns.objects.linking import START_CALL

STACK = 2
TRAPS = ("divide", "index", "depth")
MOST_CALLS = 1000


def frames_of(image):
    """Return a dict with the bytes of the frame of the function in which each debugging row lies."""
    frames = {}
    marks = [address for address, _, _ in image.marks]
    ends = [address for _, address, _ in image.functions[1:]]
    ends.append(image.data_start)
    at = 0
    for (_, start, frame), end in zip(image.functions, ends):
        while at < len(marks) and marks[at] < end:
            if marks[at] >= start:
                frames[marks[at]] = frame
            at += 1
    return frames


def story_of(state):
    """Return the story of a machine at its address, or the empty tuple if there is none."""
    image = state.code
    at = state.at
    stack = unsigned(state.numbers[STACK])
    kind, chain = image.mark(at) or ("", ())
    if kind != "tell" and kind not in TRAPS:
        return ()
    chains = [chain]
    while len(chains) <= MOST_CALLS + 1 and at in state.frames:
        stack += state.frames[at]
        returning = state.word_at(stack - 4)
        if returning is None:
            return ()
        at = returning - 4
        if at == image.base + START_CALL:
            return tuple([place for part in chains[::-1] for place in part])
        kind, chain = image.mark(at) or ("", ())
        if kind != "call":
            return ()
        chains.append(chain)
    return ()
