"""Points 42 and 43: loops, and the pass fixed."""

import unittest

from sameruns.lang.units import Unit
from sameruns.lang.unitreading import read_unit
from sameruns.middle.flows import Flow
from sameruns.middle.lowering import lower
from sameruns.papers.common import common
from sameruns.papers.fixed import fixed, loops
from sameruns.papers.judge import judge
from sameruns.papers.known import known
from sameruns.papers.skips import padded, swept
from tests.drawing import drawn_declarations
from tests.flowdrawing import drawn_flow, drawn_looping_flow
from tests.secondjudge import accepts
from tests.test_lowering import FILLINGS, full
from tests.walker import assigned_by, is_simple, read_by, regions

AT = (("f", 0),)
BACK = (("back", 0),)
TURN = (("skip",),)


def flow(*blocks, count=8, params=(0, 1), arrays=(4,)):
    return Flow("f", params, count, arrays, blocks)


def to(*targets, deeds=()):
    """A block that goes to one or two blocks."""
    return (*deeds, ("jump", *targets) if len(targets) == 1 else ("fork", 0, *targets))


class LoopsTest(unittest.TestCase):
    def check(self, expected, *blocks):
        made = flow(*blocks)
        found = loops(made)
        self.assertEqual(found, expected, blocks)
        self.assertIs(type(found), list)
        for row in found:
            self.assertIs(type(row), tuple)
            self.assertIs(type(row[2]), bool)
            self.assertIs(is_simple(made, row[0]), row[2])
        found.clear()
        self.assertEqual(loops(made), expected)

    def test_no_loop(self):
        self.check([], BACK)
        self.check([], to(1, 2), to(2), BACK)

    def test_one_loop(self):
        self.check([(1, 2, True)], to(1), to(2, 3), to(1), BACK)
        self.check([(1, 1, True)], to(1), to(1))
        self.check([(2, 4, True)], to(1), to(2), to(3, 5), to(4), to(2), BACK)
        # The block in front need not be the one just before the head.
        self.check([(2, 3, True)], to(2), BACK, to(3, 4), to(2), BACK)

    def test_one_within_another(self):
        self.check([(1, 4, True), (2, 3, True)], to(1), to(2), to(3, 4), to(2), to(1))
        self.check([(1, 5, True), (3, 4, True)], to(1), to(2, 6), to(3), to(4, 5), to(3), to(1), BACK)
        # The head of the outer one is the block in front of the inner one.
        self.check([(1, 3, True), (2, 2, True)], to(1), to(2), to(2), to(1))

    def test_one_behind_another(self):
        self.check([(1, 2, True), (4, 5, True)], to(1), to(2, 3), to(1), to(4), to(5, 6), to(4), BACK)
        self.check([(1, 1, True), (3, 3, True)], to(1), to(1), to(3), to(3))

    def test_two_ends(self):
        self.check([(1, 4, True)], to(1), to(2, 3), to(1), to(4), to(1))
        self.check([(1, 5, True)], to(1), to(2, 6), to(3, 4), to(1), to(5), to(1), BACK)

    def test_into_itself(self):
        self.check([(1, 1, True)], to(1), to(1), BACK)
        self.check([(0, 0, False)], to(0))

    def test_entered_from_two_blocks(self):
        self.check([(3, 4, False)], to(1, 2), to(3), to(3), to(4, 5), to(3), BACK)
        self.check([(3, 3, False)], to(1, 2), to(3), to(3), to(3))
        # The second one is not reached, but counts.
        self.check([(2, 3, False)], to(2), to(2), to(3, 4), to(2), BACK)

    def test_entered_from_none(self):
        self.check([(1, 2, False)], to(3), to(2), to(1), BACK)

    def test_entered_out_of_another_loop(self):
        self.check([(1, 3, True), (4, 5, False)], to(1), to(2, 3), to(4), to(1), to(5, 6), to(4), BACK)
        # The block in front is the head of that other loop.
        self.check([(1, 2, True), (3, 4, False)], to(1), to(3), to(1), to(4, 5), to(3), BACK)
        # The head lies in that other loop, too.
        self.check([(1, 3, False), (3, 4, True)], to(1), to(2), to(3), to(1), to(3))
        self.check([(1, 6, True), (4, 5, True)], to(1), to(2, 3), to(4), to(1), to(5, 6), to(4), to(1))

    def test_entered_by_a_fork(self):
        self.check([(1, 2, False)], to(1, 3), to(2), to(1), BACK)
        self.check([(1, 2, False)], to(1, 1), to(2), to(1))
        self.check([(2, 3, False)], to(1, 2), to(2), to(3, 4), to(2), BACK)

    def test_entered_in_the_middle(self):
        self.check([(2, 3, False)], to(1, 3), to(2), to(3, 4), to(2), BACK)
        self.check([(2, 4, False)], to(1, 4), to(2), to(3), to(4), to(2))
        self.check([(2, 3, True)], to(1, 4), to(2), to(3), to(2), BACK)

    def test_entered_from_behind(self):
        self.check([(1, 3, False), (2, 5, True)], to(1), to(2), to(3, 4), to(1), to(5, 6), to(2), BACK)
        self.check([(1, 4, True)], to(1), to(2, 3), to(4), to(1), to(1))

    def test_at_block_0(self):
        self.check([(0, 1, False)], to(1), to(0))
        self.check([(0, 4, False), (2, 3, True)], to(1), to(2), to(3, 4), to(2), to(0))

    def test_drawn_flows(self):
        simple = 0
        for seed in range(1500):
            made = (drawn_flow if seed % 2 else drawn_looping_flow)(seed, blocks=12, deeds=1)
            spans = regions(made)
            self.assertEqual(loops(made), [(head, spans[head], is_simple(made, head)) for head in sorted(spans)])
            simple += len([row for row in loops(made) if row[2]])
        self.assertGreater(simple, 100)


class FixedCase(unittest.TestCase):
    def check(self, before):
        """Check what point 43 says of fixed, and return the after flow."""
        parts = before.parts()
        found, paper = made = fixed(before)
        self.assertIs(type(made), tuple)
        self.assertTrue(judge(before, found, paper))
        self.assertTrue(accepts(before, found, paper))
        self.assertEqual((found.name, found.params, found.arrays), (before.name, before.params, before.arrays))
        self.assertGreaterEqual(found.count, before.count)
        if found.count > before.count:
            self.assertLessEqual(found.count, 320)
        again = fixed(before)
        self.assertEqual((again[0].parts(), again[1].parts()), (found.parts(), paper.parts()))
        self.assertEqual(before.parts(), parts)
        self.check_spots(before, found, paper.spots)
        if found.count < 320:
            self.check_loops(found)
        return found

    def check_spots(self, before, found, spots):
        self.assertEqual(len(spots), found.count - before.count)
        new = []
        for number, block in enumerate(before.blocks):
            many = spots.count((number, len(block) - 1))
            for deed in found.blocks[number][len(block) - 1:len(block) - 1 + many]:
                self.assertIn(deed[0], ("op", "with"))
                new.append(deed[1])
        self.assertEqual(sorted(new), list(range(before.count, found.count)))
        self.assertEqual([len(block) for block in padded(before, spots).blocks], [len(block) for block in found.blocks])

    def check_loops(self, found):
        for head, last in regions(found).items():
            if is_simple(found, head):
                deeds = [deed for block in found.blocks[head:last + 1] for deed in block]
                changing = {variable for deed in deeds for variable in assigned_by(deed)}
                for deed in deeds:
                    self.assertFalse(deed[0] in ("op", "with") and not changing & set(read_by(deed)), (found.blocks, deed))


class FixedTest(FixedCase):
    def test_one_loop(self):
        before = flow(to(1, deeds=(("word", 2, 5),)), (("op", 3, "mul", 0, 2), ("with", 4, "add", 3, 1), ("fork", 1, 2, 3)),
                      (("with", 1, "sub", 1, 1), ("with", 5, "quo", 2, 0), ("jump", 1)), BACK)
        found = self.check(before)
        self.assertEqual(found.blocks, (
            (("word", 2, 5), ("op", 8, "mul", 0, 2), ("with", 9, "quo", 2, 0), ("jump", 1)),
            (("copy", 3, 8), ("with", 4, "add", 3, 1), ("fork", 1, 2, 3)),
            (("with", 1, "sub", 1, 1), ("copy", 5, 9), ("jump", 1)), BACK))
        self.assertEqual((found.count, fixed(before)[1].spots), (10, ((0, 1), (0, 1))))

    def test_deeds_that_do_the_same_share_a_variable(self):
        op, with_, other = ("op", 3, "add", 0, 1), ("with", 4, "add", 0, 1), ("op", 6, "add", 1, 0)
        found = self.check(flow(to(1), to(2, 3, deeds=(op, with_)), to(1, deeds=(other, ("op", 5, "add", 0, 1))), BACK))
        self.assertEqual(found.blocks, (
            (("op", 8, "add", 0, 1), ("with", 9, "add", 0, 1), ("op", 10, "add", 1, 0), ("jump", 1)),
            (("copy", 3, 8), ("copy", 4, 9), ("fork", 0, 2, 3)), (("copy", 6, 10), ("copy", 5, 8), ("jump", 1)), BACK))

    def test_nothing_to_do(self):
        for blocks in ((BACK,), ((("op", 2, "add", 0, 1), ("back", 2)),), (to(1), to(1, deeds=(("op", 2, "add", 2, 1), ("with", 2, "mul", 2, 3)))),
                       (to(1), to(1, deeds=(("load", 2, "t", 0), ("read", 3, "g"), ("word", 4, 1), ("copy", 5, 0), ("moves", (6,), (0,)))))):
            before = flow(*blocks)
            found = self.check(before)
            self.assertEqual(found.parts(), before.parts())
            self.assertEqual(fixed(before)[1].spots, ())

    def test_what_the_region_assigns_stays(self):
        op = ("op", 3, "add", 0, 2)
        for deed in (("word", 2, 1), ("copy", 2, 1), ("op", 2, "add", 0, 0), ("with", 0, "add", 1, 0), ("read", 0, "g"), ("load", 2, "t", 1),
                     ("moves", (5, 2), (1, 1)), ("call", 0, "f", (), AT)):
            for deeds in ((op, deed), (deed, op)):
                found = self.check(flow(to(1), to(2), to(1, deeds=deeds)))
                self.assertIn(op, found.blocks[2])
        # What is assigned in front of the loop or behind it does no harm.
        found = self.check(flow(to(1, deeds=(("word", 2, 1),)), to(2, 3), to(1, deeds=(op,)), (("word", 2, 7), ("back", 2))))
        self.assertEqual(found.blocks[2], (("copy", 3, 8), ("jump", 1)))

    def test_loops_within_loops(self):
        # The outermost loop in which a deed never changes is the one in front of which it is done.
        before = flow(to(1), to(2, 6, deeds=(("with", 2, "add", 2, 1),)), to(3), to(4, 5, deeds=(("with", 3, "mul", 3, 2),)),
                      to(3, deeds=(("op", 4, "add", 0, 1), ("op", 5, "add", 2, 1), ("op", 6, "add", 3, 2))), to(1), BACK)
        found = self.check(before)
        self.assertEqual(found.blocks[0], (("op", 8, "add", 0, 1), ("jump", 1)))
        self.assertEqual(found.blocks[2], (("op", 9, "add", 2, 1), ("jump", 3)))
        self.assertEqual(found.blocks[4], (("copy", 4, 8), ("copy", 5, 9), ("op", 6, "add", 3, 2), ("jump", 3)))
        self.assertEqual(fixed(before)[1].spots, ((0, 0), (2, 0)))

    def test_loops_that_are_not_simple_stay(self):
        op = ("op", 3, "add", 0, 1)
        for blocks in ((to(1, 3), to(2, deeds=(op,)), to(1), BACK), (to(0, deeds=(op,)),), (to(2), to(2), to(3, 4), to(2, deeds=(op,)), BACK),
                       (to(3), to(2), to(1, deeds=(op,)), BACK)):
            before = flow(*blocks)
            self.assertEqual(self.check(before).parts(), before.parts())

    def test_blocks_that_are_not_reached(self):
        found = self.check(flow(BACK, to(2), to(3), to(2, deeds=(("op", 3, "add", 0, 1),))))
        self.assertEqual(found.blocks, (BACK, (("op", 8, "add", 0, 1), ("jump", 2)), to(3), (("copy", 3, 8), ("jump", 2))))
        found = self.check(flow(to(1), to(3), to(3, deeds=(("op", 3, "add", 0, 1),)), to(1)))
        self.assertEqual(found.blocks[2], (("copy", 3, 8), ("jump", 3)))

    def test_loops_one_behind_another(self):
        op = ("op", 3, "add", 0, 1)
        found = self.check(flow(to(1), to(2, 3, deeds=(op,)), to(1), to(4), to(5, 6), to(4, deeds=(op,)), BACK))
        self.assertEqual((found.blocks[0], found.blocks[3]), ((("op", 8, "add", 0, 1), ("jump", 1)), (("op", 9, "add", 0, 1), ("jump", 4))))

    def test_the_deed_in_front_does_not_trap(self):
        # The loop is never done, and the operation is one with 0.
        found = self.check(flow(to(1, deeds=(("word", 2, 0),)), to(2, 3), to(1, deeds=(("op", 3, "quo", 0, 2), ("op", 4, "mod", 0, 2))), BACK))
        self.assertEqual(found.count, 10)

    def test_the_bound_of_variables(self):
        deeds = [("with", 3 + number, "add", 0, number) for number in range(20)]
        for count, after_count in ((200, 220), (299, 319), (300, 320), (301, 320), (310, 320), (319, 320), (320, 320), (321, 321), (400, 400)):
            before = flow(to(1), to(1, deeds=deeds), count=count)
            found = self.check(before)
            self.assertEqual(found.count, after_count)
            copies = [deed for deed in found.blocks[1] if deed[0] == "copy"]
            self.assertEqual(len(copies), min(20, after_count - count))

    def test_lowered_loops(self):
        unit = read_unit("""word main() { word n; word i; word s; n = s * 3; while (i < 10) { i = i + 1; s = s + n * n;
                            while (s > n * 30) { s = s - i * n; } } return s; }""")
        # n * n never changes, and what is done with a number only if it is known; i * n changes in the outer loop.
        self.assertEqual(self.moved(lower(unit).flow("main")), [("op", "mul"), ("op", "mul")])
        unit = read_unit("word main() { word n; word i; n = f(); while (i < n + 1) { i = i + 1; tell n * 30 + i; } } word f() { return 3; }")
        before = lower(unit).flow("main")
        self.assertEqual(self.moved(before), [])
        self.assertEqual(self.moved(swept(known(before)[0])), [("with", "add"), ("with", "mul")])

    def moved(self, before):
        """The kinds and names of the deeds that are done in front of a loop now."""
        found = self.check(before)
        return [deed[::2][:2] for block in found.blocks for deed in block if deed[0] in ("op", "with") and deed[1] >= before.count]


class ManyFlowsTest(FixedCase):
    def test_drawn_flows(self):
        for seed in range(600):
            self.check(drawn_flow(seed))

    def test_drawn_flows_with_loops(self):
        moved = 0
        for seed in range(120):
            before = drawn_looping_flow(seed, most=12)
            many = before.count
            for action in (fixed, known, common, fixed):
                before = self.check(before) if action is fixed else action(before)[0]
            moved += before.count - many
        self.assertGreater(moved, 200)

    def test_nearly_too_many_variables(self):
        bounded = 0
        for seed in range(60):
            before = drawn_looping_flow(seed, deeds=5)
            many = 317 + seed % 5
            found = self.check(Flow(before.name, before.params, many, before.arrays, before.blocks))
            bounded += found.count == 320 and many < 320
        self.assertGreater(bounded, 20)

    def test_lowered_flows(self):
        moved = 0
        for seed in range(100):
            for before in lower(Unit((), drawn_declarations(seed, 4, 90))).flows:
                better = swept(common(swept(known(before)[0]))[0])
                for one in (before, better):
                    found = swept(self.check(one))
                    moved += found.count - one.count
                    self.assertEqual(swept(self.check(found)).parts(), found.parts())
        self.assertGreater(moved, 30)

    def test_full_functions(self):
        for filling in FILLINGS[::4]:
            self.check(lower(full(filling)).flow("q"))


if __name__ == "__main__":
    unittest.main()
