"""Points 41, and 36 to 40 on drawn flows: what the judge accepts keeps the run in step."""

import random
import unittest

from sameruns.basics.errors import BadFlow
from sameruns.middle.flows import Flow
from sameruns.papers.common import common
from sameruns.papers.dead import dead
from sameruns.papers.fixed import fixed
from sameruns.papers.fixed import fixed
from sameruns.papers.judge import Paper, judge
from sameruns.papers.known import known
from tests.flowdrawing import FlowDrawer, drawn_middle
from tests.secondjudge import accepts
from tests.stepping import check_in_step

PASSES = (known, common, dead, fixed)


def exchanged(row, at, entry):
    """A tuple with another entry at an index."""
    return (*row[:at], entry, *row[at + 1:])


class Changer:
    """Changes one thing of an after flow or a paper."""

    def __init__(self, chance, before, after, paper):
        self.chance, self.before, self.after, self.paper = chance, before, after, paper
        self.drawer = FlowDrawer(chance, before.name, 0, [("f", 1), ("q", 2), ("main", 0)])
        self.drawer.count, self.drawer.many, self.drawer.arrays = after.count, len(after.blocks), after.arrays

    def changed(self):
        """The pair (after flow, paper), one thing of it changed."""
        action = self.chance.choice((self.deed, self.deed, self.deed, self.spot, self.agreeing, self.facts, self.facts, self.entry))
        return action()

    def deed(self):
        """Another deed, or another entry of a deed."""
        flow = self.after
        number = self.chance.randrange(len(flow.blocks))
        block = flow.blocks[number]
        position = self.chance.randrange(len(block))
        deed = block[position]
        if self.chance.random() < 0.6 and len(deed) > 1:
            at = self.chance.randrange(1, len(deed))
            new = self.drawer.variable() if flow.count and isinstance(deed[at], int) else deed[at]
            deed = exchanged(deed, at, new)
        else:
            deed = self.drawer.end(number) if position == len(block) - 1 else self.drawer.deed()
        try:
            blocks = exchanged(flow.blocks, number, exchanged(block, position, deed))
            return Flow(flow.name, flow.params, flow.count, flow.arrays, blocks), self.paper
        except BadFlow:
            return self.after, self.paper

    def spot(self):
        """Another spot."""
        spots = list(self.paper.spots)
        if spots:
            spots[self.chance.randrange(len(spots))] = (self.chance.randint(-1, 5), self.chance.randint(-1, 5))
        else:
            spots.append((0, 0))
        return self.after, Paper(tuple(spots), self.paper.entries)

    def with_entry(self, number, entry):
        return self.after, Paper(self.paper.spots, exchanged(self.paper.entries, number, entry))

    def drawn_entry(self):
        """The number of some block with an entry."""
        return self.chance.choice([n for n, entry in enumerate(self.paper.entries) if entry is not None])

    def agreeing(self):
        """An agreeing variable more or less."""
        number = self.drawn_entry()
        agreeing, facts = self.paper.entries[number]
        variable = self.chance.randint(-1, self.after.count)
        if variable in agreeing:
            return self.with_entry(number, (tuple([v for v in agreeing if v != variable]), facts))
        return self.with_entry(number, (tuple(sorted((*agreeing, variable))), facts))

    def facts(self):
        """A fact more or less."""
        number = self.drawn_entry()
        agreeing, facts = self.paper.entries[number]
        if facts and self.chance.random() < 0.5:
            at = self.chance.randrange(len(facts))
            return self.with_entry(number, (agreeing, facts[:at] + facts[at + 1:]))
        deed = self.drawer.deed()
        fact = deed[:-1] if deed[0] in ("nonzero", "inside", "depth") else deed
        if fact[0] in ("moves", "skip", "write", "store", "tell", "call") or fact in facts:
            return self.after, self.paper
        return self.with_entry(number, (agreeing, (*facts, fact)))

    def entry(self):
        """None in the place of an entry, or the other way round."""
        number = self.chance.randrange(len(self.paper.entries))
        if self.paper.entries[number] is None:
            return self.with_entry(number, ((), ()))
        return self.with_entry(number, None)


class InStepTest(unittest.TestCase):
    def test_each_pass(self):
        total = 0
        for seed in range(700):
            middle = drawn_middle(seed)
            for action in PASSES:
                pairs = {flow.name: action(flow) for flow in middle.flows}
                total += check_in_step(self, middle, pairs, depth=random.Random(seed).choice((1, 3, 32)))
        self.assertGreater(total, 20000)

    def test_what_the_judge_accepts_after_a_change(self):
        accepted, refused = 0, 0
        for seed in range(900):
            chance = random.Random(seed)
            middle = drawn_middle(seed)
            pairs = {}
            for flow in middle.flows:
                after, paper = chance.choice(PASSES)(flow)
                for _ in range(6):
                    pair = Changer(chance, flow, after, paper).changed()
                    answer = judge(flow, *pair)
                    self.assertIs(answer, accepts(flow, *pair), (flow.parts(), pair[0].parts(), pair[1].parts()))
                    if answer:
                        after, paper = pair
                        accepted += 1
                    else:
                        refused += 1
                pairs[flow.name] = (after, paper)
            check_in_step(self, middle, pairs)
        self.assertGreater(accepted, 4000)
        self.assertGreater(refused, 4000)

    def test_flows_for_themselves(self):
        # The plainest paper: all variables agree everywhere, and no facts.
        for seed in range(100):
            middle = drawn_middle(seed)
            pairs = {flow.name: (flow, Paper((), ((tuple(range(flow.count)), ()),) * len(flow.blocks))) for flow in middle.flows}
            for flow in middle.flows:
                self.assertTrue(judge(flow, *pairs[flow.name]))
            check_in_step(self, middle, pairs)


if __name__ == "__main__":
    unittest.main()
