"""Checking certificates."""

from sameruns.homes.cells import is_free
from sameruns.homes.fitting import fits
from sameruns.lang.checking import check_unit
from sameruns.middle.flows import MOST_PLACES
from sameruns.middle.lowering import lower
from sameruns.papers.improving import with_items
from sameruns.papers.judge import judge
from sameruns.papers.laid import calls_of, laid_once, layable, longest_chain, wrong_site
from sameruns.whole.gathering import object_of

MOST_HOMES = 320
# The bounds of every flow, also of one that is laid.
MOST_VARIABLES = 400
MOST_BLOCKS = 320
MOST_DEEDS = 1200


def accepts(unit, made, certificate):
    """Return True if the checker accepts a certificate for a unit and an object."""
    check_unit(unit)
    if not is_free(certificate.free):
        return False
    flows = lower(unit).flows
    for stage in certificate.stages:
        flows = after_stage(flows, stage)
        if flows is None:
            return False
    if not all_fit(flows, certificate.homes, certificate.free):
        return False
    return made.parts() == object_of(unit, flows, certificate.homes).parts()


def after_stage(flows, stage):
    """Return the tuple of the flows after a stage, or None if something in it is not so."""
    kind, rows = stage
    if len(rows) != len(flows):
        return None
    if kind == "judged":
        if not all([row is None or judge(flow, row[0], row[1]) for flow, row in zip(flows, rows)]):
            return None
        return with_items(flows, rows)
    if kind != "laid":
        return None
    found = [laid_within_bounds(flow, flows, sites) for flow, sites in zip(flows, rows)]
    return None if None in found else tuple(found)


def laid_within_bounds(flow, flows, sites):
    """Return the flow laid at its sites, or None if a site is wrong or the flow passes the bounds."""
    can = layable(flows)
    if wrong_site(flow, can, sites) is not None:
        return None
    laid_flow = flow
    for done, site in enumerate(sites):
        number, position = calls_of(flow)[site]
        call = flow.blocks[number][position]
        # Each call that is laid makes the flow greater, so nothing is laid in one that is too great already.
        if not is_within_bounds(laid_flow) or len(call[4]) + longest_chain(can[call[2]]) > MOST_PLACES:
            return None
        laid_flow = laid_once(laid_flow, can, site - done)
    return laid_flow if is_within_bounds(laid_flow) else None


def is_within_bounds(flow):
    """Return True if a flow has no more variables, blocks and deeds than it may have."""
    deeds = sum([len(block) for block in flow.blocks])
    return flow.count <= MOST_VARIABLES and len(flow.blocks) <= MOST_BLOCKS and deeds <= MOST_DEEDS


def all_fit(flows, homes, free):
    """Return True if there is one tuple of homes for each flow, and each fits."""
    if len(homes) != len(flows):
        return False
    return all([flow.count <= MOST_HOMES and is_good_tuple(flow, own, free) for flow, own in zip(flows, homes)])


def is_good_tuple(flow, homes, free):
    """Return True if there is one home for each variable of a flow, and they fit."""
    return len(homes) == flow.count and fits(flow, homes, free)
