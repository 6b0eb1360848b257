"""Point 46: improving middles."""

import itertools
import random
import unittest

from sameruns.basics.errors import BadPass, TooMany
from sameruns.lang.unitreading import read_unit
from sameruns.lang.units import Unit, parted
from sameruns.middle.flows import Flow, Middle
from sameruns.middle.lowering import lower
from sameruns.middle.walking import run_middle
from sameruns.papers.common import common
from sameruns.papers.dead import dead
from sameruns.papers.fixed import fixed
from sameruns.papers.improving import PASSES, improved
from sameruns.papers.known import known
from sameruns.papers.laid import laid
from sameruns.papers.skips import swept
from sameruns.source.source import run_source
from tests.drawing import drawn_cut, drawn_declarations
from tests.flowdrawing import FlowDrawer, LoopDrawer, drawn_middle
from tests.test_lowering import FILLINGS, full
from tests.walker import SmallWalker

AT = (("f", 0),)
ACTIONS = {"known": known, "common": common, "dead": dead, "fixed": fixed}
PROGRAM = read_unit("""word g = 2; word t[4];
word leaf(word n) { word x; return n * 3 + g + g; }
word mid(word n) { word i; while (i < n) { i = i + 1; t[i mod 4] = leaf(i) + n * n; } return t[1]; }
word main() { word i; while (i < 5) { tell mid(i) / (4 - i); i = i + 1; } return leaf(t[i]); }""")


def stepwise(middle, passes):
    """The improved middle by one pass after another, as point 46 says it."""
    flows = middle.flows
    for name in passes:
        if name == "laid":
            flows = tuple([laid(flow, flows)[0] for flow in flows])
        else:
            flows = tuple([swept(ACTIONS[name](flow)[0]) for flow in flows])
    return Middle(middle.words, middle.arrays, flows)


def drawn_passes(chance):
    """Some passes in any order."""
    return tuple([chance.choice(PASSES) for _ in range(chance.randint(0, 8))])


class ImprovedTest(unittest.TestCase):
    def check(self, middle, passes):
        parts = middle.parts()
        found = improved(middle, passes)
        self.assertIsInstance(found, Middle)
        self.assertEqual(found.parts(), stepwise(middle, passes).parts())
        self.assertEqual((found.words, found.arrays), (middle.words, middle.arrays))
        self.assertEqual([flow.name for flow in found.flows], [flow.name for flow in middle.flows])
        self.assertEqual(improved(middle, passes).parts(), found.parts())
        self.assertEqual(middle.parts(), parts)
        if passes and passes[-1] != "laid":
            self.assertFalse([deed for flow in found.flows for block in flow.blocks for deed in block if deed[0] == "skip"])
        return found

    def test_the_names(self):
        self.assertEqual(PASSES, ("known", "common", "dead", "fixed", "laid"))

    def test_no_pass(self):
        for middle in (Middle((), (), ()), lower(PROGRAM), drawn_middle(3)):
            self.assertEqual(self.check(middle, ()).parts(), middle.parts())

    def test_a_middle_without_flows(self):
        self.assertEqual(self.check(Middle((("g", 3),), (("t", 2),), ()), PASSES).parts(), ((("g", 3),), (("t", 2),), ()))

    def test_each_pass_and_each_pair(self):
        middle = lower(PROGRAM)
        for name in PASSES:
            self.assertNotEqual(self.check(middle, (name,)).parts(), middle.parts())
        for passes in itertools.product(PASSES, PASSES):
            self.check(middle, passes)
        self.check(middle, PASSES)
        self.check(middle, ("laid",) * 8)
        self.check(middle, ("dead", "known", "laid", "common", "fixed", "known", "dead", "laid"))

    def test_skips_go_by_the_passes_with_papers(self):
        skips = Flow("main", (), 1, (), ((("skip",), ("word", 0, 1), ("skip",), ("skip",), ("back", 0)),))
        for name in ("known", "common", "dead", "fixed"):
            self.assertEqual(self.check(Middle((), (), (skips,)), (name,)).flows[0].blocks, ((("word", 0, 1), ("back", 0)),))
        self.assertEqual(self.check(Middle((), (), (skips,)), ("laid",)).flows[0].blocks, skips.blocks)

    def test_laid_takes_the_flows_as_they_are_before_the_pass(self):
        def caller(name, called):
            return Flow(name, (0,), 2, (), ((("call", 1, called, (0,), ((name, 0),)), ("back", 1)),))

        def calls(middle):
            return [[deed[2] for block in flow.blocks for deed in block if deed[0] == "call"] for flow in middle.flows]

        leaf = Flow("c", (0,), 1, (), ((("back", 0),),))
        for order in itertools.permutations((caller("a", "b"), caller("b", "c"), leaf)):
            middle = Middle((), (), order)
            names = [flow.name for flow in order]
            self.assertEqual(calls(self.check(middle, ("laid",)))[names.index("a")], ["b"])
            self.assertEqual(calls(self.check(middle, ("laid",)))[names.index("b")], [])
            self.assertEqual(calls(self.check(middle, ("laid", "laid")))[names.index("a")], [])

    def test_bad_passes(self):
        middle = lower(PROGRAM)
        for passes, name in ((("laid", "Known"), "Known"), (("",), ""), (("dead", "x", "y"), "x"), (("known",) * 8 + ("zz",), "zz"),
                             (("q",) + ("known",) * 9, "q"), (("known ",), "known ")):
            with self.assertRaises(BadPass) as caught:
                improved(middle, passes)
            self.assertEqual(caught.exception.name, name)
        for many in (9, 10, 30):
            with self.assertRaises(TooMany) as caught:
                improved(middle, ("dead",) * many)
            self.assertEqual(caught.exception.most, 8)
        improved(middle, ("dead",) * 8)

    def test_drawn_middles_keep_their_runs(self):
        for seed in range(160):
            chance = random.Random(seed)
            middle = drawn_middle(seed, chance.choice((FlowDrawer, LoopDrawer)), deeds=3)
            better = self.check(middle, drawn_passes(chance))
            for depth in (1, 3, 32):
                small = SmallWalker(middle, depth)
                small.go(15, 2000)
                if small.end == ("wild",) or (small.end is None and small.steps == 2000):
                    continue
                run = run_middle(better, depth=depth, rounds=15, steps=20000)
                self.assertEqual(run.shown(), small.shown())

    def test_drawn_programs_in_any_parting(self):
        done, steps, better_steps = 0, 0, 0
        for seed in range(220):
            chance = random.Random(seed)
            unit = Unit((), drawn_declarations(seed, 4, 80))
            units = parted(unit, drawn_cut(seed, len(unit.declarations))) if seed % 3 else [unit]
            better = Middle.joined([improved(lower(part), drawn_passes(chance)) for part in units])
            for depth in (1, 2, 32):
                source = run_source(units, depth=depth, rounds=12, steps=4000)
                if source.steps < 4000:
                    plain = run_middle(Middle.joined([lower(part) for part in units]), depth=depth, rounds=12)
                    run = run_middle(better, depth=depth, rounds=12)
                    self.assertEqual(run.shown(), source.shown())
                    done, steps, better_steps = done + 1, steps + plain.steps, better_steps + run.steps
        self.assertGreater(done, 500)
        self.assertLess(better_steps, steps)

    def test_full_functions(self):
        for filling in FILLINGS[::5]:
            unit = full(filling)
            source = run_source([unit], rounds=10, steps=3000)
            better = improved(lower(unit), ("laid", "known", "common", "fixed", "dead", "laid", "fixed", "known"))
            if source.steps < 3000:
                self.assertEqual(run_middle(better, rounds=10).shown(), source.shown())


if __name__ == "__main__":
    unittest.main()
