"""Points 55 and 56: placed flows and their layout."""

import random
import unittest

from sameruns.homes.choosing import choose
from sameruns.homes.renaming import renamed
from sameruns.lang.unitreading import read_unit
from sameruns.lang.units import Unit
from sameruns.middle.flows import Flow
from sameruns.middle.lowering import lower
from sameruns.papers.improving import PASSES, improved
from sameruns.rows.layout import Layout
from tests.drawing import drawn_declarations
from tests.flowdrawing import drawn_flow, drawn_looping_flow
from tests.test_lowering import FILLINGS, full

REGISTERS = (8, 10, 9, 11, 18, 12, 19, 13, 20, 14, 21, 15, 22, 16, 23, 17, 24, 25, 26, 27)


def placed(count, arrays=(), variables=(), params=()):
    """A placed flow in whose deeds these variables occur."""
    deeds = [("word", variable, 1) for variable in variables]
    return Flow("f", params, count, arrays, ((*deeds, ("jump", 0)),))


class LayoutTest(unittest.TestCase):
    def check(self, flow):
        parts = flow.parts()
        layout = Layout(flow)
        self.assertIs(type(layout.frame), int)
        self.assertEqual(layout.frame % 4, 0)
        self.assertLessEqual(layout.frame, 2044)
        cells = [layout.offset(slot) for slot in range(32, flow.count)]
        for number, length in enumerate(flow.arrays):
            cells += [layout.array_offset(number) + 4 * index for index in range(length)]
        for cell in cells:
            self.assertIs(type(cell), int)
            self.assertEqual(cell % 4, 0)
            self.assertGreaterEqual(cell, 0)
            self.assertLess(cell, layout.frame - 4)
        self.assertEqual(len(set(cells)), len(cells))
        self.assertEqual(flow.parts(), parts)
        again = Layout(flow)
        self.assertEqual([again.frame, *[again.offset(slot) for slot in range(32, flow.count)]],
                         [layout.frame, *[layout.offset(slot) for slot in range(32, flow.count)]])
        return layout

    def test_no_slot_and_no_array(self):
        self.assertGreaterEqual(self.check(placed(32)).frame, 4)
        self.check(placed(32, variables=(8, 10, 27)))
        self.check(placed(32, variables=REGISTERS))

    def test_slots(self):
        for count in range(33, 353):
            self.assertGreaterEqual(self.check(placed(count)).frame, 4 * (count - 32) + 4)
        self.check(placed(352, variables=(351, 32, *REGISTERS), params=(351, 8, 10)))
        # A flow has at most 400 variables.
        self.check(placed(400, (32, 32), (399, *REGISTERS)))

    def test_arrays(self):
        for arrays in ((1,), (32,), (32, 32), (4,) * 16, (1,) * 16, (1, 2, 3, 4, 5, 6, 7, 8, 9, 10, 9), (2, 32, 1, 29)):
            self.assertLessEqual(sum(arrays), 64)
            for count in (32, 33, 40, 352):
                self.check(placed(count, arrays))
                self.check(placed(count, arrays, REGISTERS))

    def test_the_greatest_frame(self):
        self.check(placed(352, (4,) * 16, (*REGISTERS, *range(32, 352)), (8, 9, 18, 19, 20, 21)))

    def test_drawn_flows(self):
        for seed in range(300):
            made = drawn_looping_flow(seed) if seed % 2 else drawn_flow(seed)
            free = random.Random(seed).randint(0, 20)
            self.check(renamed(made, choose(made, free)))

    def test_compiled_flows(self):
        for seed in range(60):
            chance = random.Random(seed)
            middle = improved(lower(Unit((), drawn_declarations(seed, 4, 90))), [chance.choice(PASSES) for _ in range(4)])
            for made in middle.flows:
                self.check(renamed(made, choose(made, chance.randint(0, 20))))

    def test_full_functions(self):
        units = [full(filling) for filling in FILLINGS[::9]]
        rows = " ".join([f"word r{k}[4];" for k in range(16)])
        units.append(read_unit("word main() { " + rows + " tell r15[3] + r0[0]; }"))
        for unit in units:
            for passes in ((), ("fixed", "laid", "common")):
                for made in improved(lower(unit), passes).flows:
                    self.check(renamed(made, choose(made, 0)))
                    self.check(renamed(made, tuple(range(32, 32 + made.count))))
                    self.check(renamed(made, choose(made, 20)))


if __name__ == "__main__":
    unittest.main()
