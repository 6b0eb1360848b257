"""Improving middles by passes."""

from sameruns.basics.errors import BadPass, TooMany
from sameruns.middle.flows import Middle
from sameruns.papers.common import common
from sameruns.papers.dead import dead
from sameruns.papers.fixed import fixed
from sameruns.papers.judge import judge
from sameruns.papers.known import known
from sameruns.papers.laid import laid
from sameruns.papers.skips import swept

PASSES = ("known", "common", "dead", "fixed", "laid")
MOST_PASSES = 8


def improved(middle, passes):
    """Return the middle after these passes, one after another."""
    check_passes(passes)
    flows = middle.flows
    for name in passes:
        flows, _ = staged(name, flows)
    return Middle(middle.words, middle.arrays, flows)


def check_passes(passes):
    """Refuse the first name that is no pass, and then too many names."""
    for name in passes:
        if name not in PASSES:
            raise BadPass(name)
    if len(passes) > MOST_PASSES:
        raise TooMany(MOST_PASSES)


def staged(name, flows):
    """Return the tuple (flows, stage): the flows after a pass, and the stage of a certificate that tells of it."""
    if name == "laid":
        # Each one is laid with the flows as they are before the pass.
        found = [laid(flow, flows) for flow in flows]
        return (tuple([flow for flow, _ in found]), ("laid", tuple([sites for _, sites in found])))
    items = tuple([judged_item(name, flow) for flow in flows])
    return (with_items(flows, items), ("judged", items))


def judged_item(name, flow):
    """Return the pair of the after flow and the paper of a pass, or None if the judge does not accept it."""
    after, paper = judged_pass(name, flow)
    return (after, paper) if judge(flow, after, paper) else None


def with_items(flows, items):
    """Return the tuple of the flows after a stage with these items, which the judge accepts."""
    return tuple([flow if item is None else swept(item[0]) for flow, item in zip(flows, items)])


def judged_pass(name, flow):
    """Return the tuple of the after flow and the paper of a pass that has papers."""
    if name == "known":
        return known(flow)
    if name == "common":
        return common(flow)
    return dead(flow) if name == "dead" else fixed(flow)
