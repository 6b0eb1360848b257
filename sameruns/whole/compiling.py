"""Compiling units."""

from sameruns.homes.cells import free_registers
from sameruns.homes.choosing import choose
from sameruns.lang.checking import check_unit
from sameruns.middle.lowering import lower
from sameruns.papers.improving import check_passes, staged
from sameruns.whole.gathering import object_of


class Certificate:
    """How a unit was compiled."""

    def __init__(self, free, stages, homes):
        self.free = free
        self.stages = tuple(stages)
        self.homes = tuple(homes)

    def parts(self):
        """Return the tuple of the three fields, with the parts of the flows and papers in their place."""
        return (self.free, tuple([stage_parts(stage) for stage in self.stages]), self.homes)


def stage_parts(stage):
    """Return a stage with the parts of its flows and papers in their place."""
    kind, rows = stage
    if kind != "judged":
        return stage
    return (kind, tuple([row if row is None else (row[0].parts(), row[1].parts()) for row in rows]))


def compiled(unit, *passes, free=8):
    """Return the object of a unit."""
    made, _ = certified(unit, *passes, free=free)
    return made


def certified(unit, *passes, free=8):
    """Return the tuple of the object of a unit and a certificate for it."""
    check_unit(unit)
    check_passes(passes)
    free_registers(free)
    flows = lower(unit).flows
    stages = []
    for name in passes:
        flows, stage = staged(name, flows)
        stages.append(stage)
    homes = tuple([choose(flow, free) for flow in flows])
    return (object_of(unit, flows, homes), Certificate(free, stages, homes))
