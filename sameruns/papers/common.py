"""The pass that does nothing twice."""

from sameruns.middle.flows import Flow
from sameruns.papers.drafts import drafted
from sameruns.papers.judge import Paper


def common(flow):
    """Return the tuple of the after flow and the paper of this pass."""
    blocks, entries = drafted(flow, flow.blocks, common_deed)
    return (Flow(flow.name, flow.params, flow.count, flow.arrays, blocks), Paper((), entries))


def common_deed(walk, deed):
    """Return a copy from a variable that has the word of this deed already, or the deed if there is none."""
    if deed[0] in ("op", "with", "read", "load"):
        # All facts that do the same have this in common: the word that they read, or their first variable.
        key = ("read", deed[2]) if deed[0] == "read" else deed[3]
        for fact in walk.book.about(key):
            if fact[0] == deed[0] and fact[2:] == deed[2:]:
                return ("copy", deed[1], fact[1])
    return deed
