"""Improving middles by passes."""

from sameruns.basics.errors import BadPass, TooMany
from sameruns.middle.flows import Middle
from sameruns.papers.common import common
from sameruns.papers.dead import dead
from sameruns.papers.fixed import fixed
from sameruns.papers.judge import judge
from sameruns.papers.known import known
from sameruns.papers.laid import laid
from sameruns.papers.skips import swept

PASSES = ("known", "common", "dead", "fixed", "laid")
MOST_PASSES = 8


def improved(middle, passes):
    """Return the middle after these passes, one after another."""
    check_passes(passes)
    flows = middle.flows
    for name in passes:
        flows = tuple([passed(name, flow, flows) for flow in flows])
    return Middle(middle.words, middle.arrays, flows)


def check_passes(passes):
    """Refuse the first name that is no pass, and then too many names."""
    for name in passes:
        if name not in PASSES:
            raise BadPass(name)
    if len(passes) > MOST_PASSES:
        raise TooMany(MOST_PASSES)


def passed(name, flow, flows):
    """Return what takes the place of a flow by a pass; the flows are those before the pass."""
    if name == "laid":
        return laid(flow, flows)[0]
    after, paper = judged_pass(name, flow)
    return swept(after) if judge(flow, after, paper) else flow


def judged_pass(name, flow):
    """Return the tuple of the after flow and the paper of a pass that has papers."""
    if name == "known":
        return known(flow)
    if name == "common":
        return common(flow)
    return dead(flow) if name == "dead" else fixed(flow)
