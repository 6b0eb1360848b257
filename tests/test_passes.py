"""Points 42 and 43: the passes known, common and dead."""

import unittest

from sameruns.lang.units import Unit
from sameruns.middle.flows import Flow
from sameruns.middle.lowering import lower
from sameruns.papers.common import common
from sameruns.papers.dead import dead
from sameruns.papers.judge import Paper, judge
from sameruns.papers.known import known
from sameruns.papers.skips import swept
from tests.drawing import drawn_declarations
from tests.flowdrawing import drawn_flow
from tests.secondjudge import accepts, after, implied, is_wanted_behind, neutral, reached_blocks
from tests.secondjudge import known as known_word
from tests.test_lowering import FILLINGS, full
from tests.walker import assigned_by

AT = (("f", 0),)
FAR = (("f", 1),)


def flow(*blocks, count=6, params=(0, 1), arrays=(4,)):
    return Flow("f", params, count, arrays, blocks)


def with_local_facts(found, numbers=None):
    """Tuples (deed, local facts at it) of the blocks with these numbers, or of the reached blocks."""
    rows = []
    for number in reached_blocks(found) if numbers is None else numbers:
        facts = ()
        for deed in found.blocks[number]:
            rows.append((deed, facts))
            facts = after(facts, deed)
    return rows


def may_stay_in_known(deed, facts):
    """True if point 43 lets a deed stand in a reached block of the after flow of known."""
    kind = deed[0]
    if kind == "copy":
        return known_word(facts, deed[2]) is None
    if kind == "op":
        return known_word(facts, deed[4]) is None
    if kind == "with":
        return known_word(facts, deed[3]) is None and not neutral(deed[2], deed[4])
    if kind in ("nonzero", "inside", "depth"):
        return not implied(facts, deed[:-1])
    return kind != "fork" or known_word(facts, deed[1]) is None


def may_stay_in_common(deed, facts):
    """True if point 43 lets a deed stand in a reached block of the after flow of common."""
    if deed[0] not in ("op", "with", "read", "load"):
        return True
    return not any(fact[0] == deed[0] and fact[2:] == deed[2:] for fact in facts)


class PassCase(unittest.TestCase):
    """What holds for each of the three passes."""

    def check(self, action, before):
        parts = before.parts()
        found, paper = made = action(before)
        self.assertIs(type(made), tuple)
        self.assertIsInstance(found, Flow)
        self.assertIsInstance(paper, Paper)
        self.assertTrue(judge(before, found, paper))
        self.assertTrue(accepts(before, found, paper))
        self.assertEqual((found.name, found.params, found.count, found.arrays), (before.name, before.params, before.count, before.arrays))
        self.assertEqual(paper.spots, ())
        again = action(before)
        self.assertEqual((again[0].parts(), again[1].parts()), (found.parts(), paper.parts()))
        self.assertEqual(before.parts(), parts)
        if action is known:
            for deed, facts in with_local_facts(found):
                self.assertTrue(may_stay_in_known(deed, facts), (before.blocks, found.blocks, deed, facts))
        elif action is common:
            for deed, facts in with_local_facts(found):
                self.assertTrue(may_stay_in_common(deed, facts), (before.blocks, found.blocks, deed, facts))
        else:
            self.check_dead(found)
        return found

    def check_dead(self, found):
        for number, block in enumerate(found.blocks):
            for position, deed in enumerate(block):
                if deed[0] in ("word", "copy", "op", "with", "read", "load", "moves"):
                    for variable in assigned_by(deed):
                        self.assertTrue(is_wanted_behind(found, number, position, variable), (found.blocks, number, position))

    def blocks(self, action, *blocks, **more):
        return self.check(action, flow(*blocks, **more)).blocks

    def deeds(self, action, *deeds):
        """The deeds of the after flow of one block, without the last one."""
        return self.blocks(action, (*deeds, ("back", 5)))[0][:-1]


class KnownTest(PassCase):
    def test_values(self):
        begin = (("word", 2, 6), ("word", 3, 0))
        for deed, better in (
            (("copy", 5, 2), ("word", 5, 6)), (("copy", 5, 1), ("copy", 5, 1)), (("op", 5, "sub", 2, 2), ("word", 5, 0)),
            (("op", 5, "sub", 1, 2), ("with", 5, "sub", 1, 6)), (("op", 5, "sub", 2, 1), ("op", 5, "sub", 2, 1)),
            (("op", 5, "add", 1, 3), ("copy", 5, 1)), (("op", 5, "quo", 2, 3), ("word", 5, -1)), (("op", 5, "mul", 1, 3), ("with", 5, "mul", 1, 0)),
            (("with", 5, "mul", 2, -7), ("word", 5, -42)), (("with", 5, "mul", 1, 1), ("copy", 5, 1)), (("with", 5, "and", 1, -1), ("copy", 5, 1)),
            (("with", 5, "and", 1, 1), ("with", 5, "and", 1, 1)), (("with", 5, "shl", 1, 32), ("with", 5, "shl", 1, 32)),
            (("word", 5, 3), ("word", 5, 3)), (("read", 5, "g"), ("read", 5, "g")), (("load", 5, "t", 2), ("load", 5, "t", 2)),
            (("moves", (5, 4), (2, 3)), ("moves", (5, 4), (2, 3))), (("call", 5, "f", (2, 3), AT), ("call", 5, "f", (2, 3), AT)),
            (("tell", 2, AT), ("tell", 2, AT)), (("write", "g", 2), ("write", "g", 2)),
        ):
            self.assertEqual(self.deeds(known, *begin, deed), (*begin, better), deed)
        for name in ("add", "sub", "or", "xor", "shl", "sar"):
            self.assertEqual(self.deeds(known, ("with", 5, name, 1, 0)), (("copy", 5, 1),))
        self.assertEqual(self.deeds(known, ("with", 5, "quo", 1, 1)), (("copy", 5, 1),))

    def test_words_lead_to_words(self):
        self.assertEqual(self.deeds(known, ("word", 2, 3), ("with", 3, "add", 2, 1), ("op", 4, "mul", 2, 3), ("copy", 5, 4)),
                         (("word", 2, 3), ("word", 3, 4), ("word", 4, 12), ("word", 5, 12)))
        self.assertEqual(self.deeds(known, ("word", 2, 3), ("with", 2, "add", 2, 1), ("copy", 5, 2)),
                         (("word", 2, 3), ("word", 2, 4), ("word", 5, 4)))

    def test_checks(self):
        skip = ("skip",)
        for begin, check, better in (
            (("word", 2, 3), ("nonzero", 2, AT), skip), (("word", 2, 0), ("nonzero", 2, AT), None), (("nonzero", 2, FAR), ("nonzero", 2, AT), skip),
            (("word", 2, 3), ("inside", 2, 4, AT), skip), (("word", 2, 4), ("inside", 2, 4, AT), None), (("word", 2, -1), ("inside", 2, 4, AT), None),
            (("inside", 2, 3, FAR), ("inside", 2, 4, AT), skip), (("inside", 2, 5, FAR), ("inside", 2, 4, AT), None),
            (("depth", 3, FAR), ("depth", 2, AT), skip), (("depth", 1, FAR), ("depth", 2, AT), None), (("skip",), ("nonzero", 1, AT), None),
        ):
            self.assertEqual(self.deeds(known, begin, check), (begin, check if better is None else better))

    def test_forks(self):
        rest = (("jump", 2),), (("back", 1),)
        for begin, end in ((("word", 2, 3), ("jump", 1)), (("word", 2, 0), ("jump", 2)), (("nonzero", 2, AT), ("jump", 1)),
                           (("inside", 2, 1, AT), ("fork", 2, 1, 2))):
            self.assertEqual(self.blocks(known, (begin, ("fork", 2, 1, 2)), *rest)[0], (begin, end))
        self.assertEqual(self.blocks(known, (("word", 2, 3), ("fork", 2, 2, 2)), *rest)[0][1], ("jump", 2))

    def test_what_is_known_across_blocks(self):
        # On one way from a fork the variable is 0.
        found = self.blocks(known, (("fork", 1, 1, 2),), (("nonzero", 1, AT), ("tell", 1, AT), ("jump", 3)), (("with", 2, "add", 1, 5), ("jump", 3)),
                            (("back", 2),))
        self.assertEqual((found[1][0], found[2][0]), (("skip",), ("word", 2, 5)))
        # What both ways say.
        found = self.blocks(known, (("fork", 1, 1, 2),), (("word", 2, 5), ("word", 3, 1), ("jump", 3)), (("word", 3, 2), ("word", 2, 5), ("jump", 3)),
                            (("copy", 4, 2), ("copy", 5, 3), ("back", 4)))
        self.assertEqual(found[3][:2], (("word", 4, 5), ("copy", 5, 3)))
        # A way that is never taken says nothing.
        found = self.blocks(known, (("word", 0, 0), ("word", 2, 5), ("fork", 0, 1, 2)), (("word", 2, 6), ("jump", 2)), (("back", 2),))
        self.assertEqual((found[0][2], found[1][0]), (("jump", 2), ("word", 2, 6)))

    def test_loops(self):
        found = self.blocks(known, (("word", 2, 5), ("word", 3, 0), ("jump", 1)), (("copy", 4, 2), ("copy", 5, 3), ("fork", 1, 2, 3)),
                            (("with", 3, "add", 3, 1), ("jump", 1)), (("back", 5),))
        self.assertEqual((found[1][:2], found[2][0]), ((("word", 4, 5), ("copy", 5, 3)), ("with", 3, "add", 3, 1)))

    def test_what_a_shrinking_entry_changes_again(self):
        # At first 3 seems to be 0 in the loop, and block 3 not to be reached.
        found = self.blocks(known, (("word", 3, 0), ("jump", 1)), (("fork", 3, 2, 3),), (("word", 4, 9), ("jump", 3)),
                            (("with", 3, "add", 3, 1), ("fork", 1, 4, 5)), (("jump", 1),), (("back", 4),))
        self.assertEqual((found[1][0], found[3][0]), (("fork", 3, 2, 3), ("with", 3, "add", 3, 1)))


class CommonTest(PassCase):
    def test_the_same_deed_again(self):
        for deed in (("op", 2, "sub", 0, 1), ("with", 2, "sub", 0, 5), ("read", 2, "g"), ("load", 2, "t", 0), ("load", 2, 0, 0)):
            again = (deed[0], 5, *deed[2:])
            self.assertEqual(self.deeds(common, deed, again), (deed, ("copy", 5, 2)))
            self.assertEqual(self.deeds(common, deed, deed), (deed, ("copy", 2, 2)))
            self.assertEqual(self.deeds(common, deed, ("word", 2, 0), again), (deed, ("word", 2, 0), again))
        self.assertEqual(self.deeds(common, ("op", 2, "sub", 0, 1), ("op", 5, "sub", 1, 0)), (("op", 2, "sub", 0, 1), ("op", 5, "sub", 1, 0)))
        self.assertEqual(self.deeds(common, ("op", 2, "sub", 0, 1), ("word", 0, 1), ("op", 5, "sub", 0, 1))[2], ("op", 5, "sub", 0, 1))
        self.assertEqual(self.deeds(common, ("op", 0, "sub", 0, 1), ("op", 5, "sub", 0, 1))[1], ("op", 5, "sub", 0, 1))
        self.assertEqual(self.deeds(common, ("op", 2, "sub", 0, 1), ("op", 0, "sub", 0, 1))[1], ("copy", 0, 2))
        # Words and copies stay.
        self.assertEqual(self.deeds(common, ("word", 2, 5), ("word", 5, 5), ("copy", 3, 0), ("copy", 4, 0)),
                         (("word", 2, 5), ("word", 5, 5), ("copy", 3, 0), ("copy", 4, 0)))

    def test_outer_words_and_arrays(self):
        call = ("call", 4, "f", (0, 1), AT)
        for first, between, deed, source in (
            (("write", "g", 1), ("skip",), ("read", 5, "g"), 1), (("write", "g", 1), call, ("read", 5, "g"), None),
            (("write", "g", 1), ("write", "g", 0), ("read", 5, "g"), 0), (("write", "g", 1), ("write", "h", 0), ("read", 5, "g"), 1),
            (("store", "t", 0, 1), ("skip",), ("load", 5, "t", 0), 1), (("store", "t", 0, 1), ("store", "t", 1, 1), ("load", 5, "t", 0), None),
            (("store", "t", 0, 1), ("store", 0, 1, 1), ("load", 5, "t", 0), 1), (("store", 0, 0, 1), call, ("load", 5, 0, 0), 1),
            (("store", "t", 0, 1), call, ("load", 5, "t", 0), None), (("store", "t", 0, 0), ("skip",), ("load", 5, "t", 0), 0),
        ):
            self.assertEqual(self.deeds(common, first, between, deed)[2], deed if source is None else ("copy", 5, source))

    def test_across_blocks(self):
        found = self.blocks(common, (("op", 2, "add", 0, 1), ("jump", 1)), (("op", 3, "add", 0, 1), ("fork", 3, 2, 3)),
                            (("op", 4, "add", 0, 1), ("with", 3, "add", 3, 1), ("jump", 1)), (("op", 2, "add", 0, 1), ("back", 2)))
        self.assertEqual((found[1][0], found[2][0]), (("copy", 3, 2), ("copy", 4, 2)))
        found = self.blocks(common, (("fork", 0, 1, 2),), (("op", 2, "add", 0, 1), ("jump", 3)), (("op", 3, "add", 0, 1), ("jump", 3)),
                            (("op", 4, "add", 0, 1), ("back", 4)))
        self.assertEqual(found[3][0], ("op", 4, "add", 0, 1))

    def test_forks_stay(self):
        found = self.blocks(common, (("word", 2, 5), ("fork", 2, 1, 2)), (("with", 3, "add", 2, 1), ("jump", 2)), (("with", 3, "add", 2, 1), ("back", 3)))
        self.assertEqual((found[0][1], found[2][0]), (("fork", 2, 1, 2), ("with", 3, "add", 2, 1)))


class DeadTest(PassCase):
    def test_what_is_not_wanted_is_skipped(self):
        skip = ("skip",)
        for deed in (("word", 4, 1), ("copy", 4, 5), ("op", 4, "quo", 0, 1), ("with", 4, "add", 4, 1), ("read", 4, "g"), ("load", 4, "t", 0),
                     ("load", 4, 0, 0), ("moves", (4, 3), (0, 1)), ("moves", (4,), (4,))):
            self.assertEqual(self.deeds(dead, deed), (skip,), deed)
        for deed in (("word", 5, 1), ("copy", 5, 4), ("load", 5, "t", 0), ("moves", (5,), (4,)), ("call", 4, "f", (0, 1), AT), ("tell", 4, AT),
                     ("nonzero", 4, AT), ("inside", 4, 2, AT), ("depth", 1, AT), ("write", "g", 4), ("store", 0, 4, 3), ("skip",)):
            self.assertEqual(self.deeds(dead, deed), (deed,), deed)

    def test_chains_of_what_is_not_wanted(self):
        self.assertEqual(self.deeds(dead, ("word", 2, 1), ("copy", 3, 2), ("with", 4, "add", 3, 1), ("word", 5, 2)), (("skip",),) * 3 + (("word", 5, 2),))
        self.assertEqual(self.deeds(dead, ("word", 5, 1), ("word", 5, 2)), (("skip",), ("word", 5, 2)))

    def test_moves_lose_pairs(self):
        self.assertEqual(self.deeds(dead, ("word", 3, 7), ("moves", (4, 5, 2), (3, 1, 0))), (("skip",), ("moves", (5,), (1,))))
        self.assertEqual(self.deeds(dead, ("moves", (4, 5), (5, 4)), ("write", "g", 4)), (("moves", (4, 5), (5, 4)), ("write", "g", 4)))

    def test_loops(self):
        # 2 is wanted around the loop only for itself.
        found = self.blocks(dead, (("word", 2, 0), ("jump", 1)), (("with", 2, "add", 2, 1), ("fork", 0, 2, 3)),
                            (("with", 0, "sub", 0, 1), ("word", 3, 4), ("jump", 1)), (("back", 1),))
        self.assertEqual(found[2], (("with", 0, "sub", 0, 1), ("skip",), ("jump", 1)))
        kept = (("word", 2, 0), ("jump", 1)), (("with", 2, "add", 2, 1), ("fork", 0, 2, 3)), (("with", 0, "sub", 0, 1), ("jump", 1)), (("back", 2),)
        self.assertEqual(self.blocks(dead, *kept), kept)

    def test_blocks_that_are_not_reached(self):
        found = self.blocks(dead, (("back", 0),), (("word", 1, 2), ("word", 2, 1), ("jump", 2)), (("copy", 3, 1), ("back", 2)))
        self.assertEqual(found, ((("back", 0),), (("skip",), ("word", 2, 1), ("jump", 2)), (("skip",), ("back", 2))))

    def test_parameters_that_are_not_wanted(self):
        self.assertEqual(self.deeds(dead, ("copy", 0, 1), ("word", 5, 1)), (("skip",), ("word", 5, 1)))


class ManyFlowsTest(PassCase):
    def test_drawn_flows(self):
        for seed in range(800):
            before = drawn_flow(seed)
            for action in (known, common, dead):
                self.check(action, before)

    def test_drawn_flows_with_many_blocks(self):
        for seed in range(60):
            before = drawn_flow(seed, blocks=30, deeds=10, most=12)
            for action in (known, common, dead, known):
                before = self.check(action, before)

    def test_lowered_flows(self):
        for seed in range(60):
            for before in lower(Unit((), drawn_declarations(seed, 4, 90))).flows:
                for action in (known, common, dead, known, common, dead):
                    before = swept(self.check(action, before))

    def test_full_functions(self):
        for filling in FILLINGS[::3]:
            before = lower(full(filling)).flow("q")
            for action in (known, common, dead):
                self.check(action, before)

    def test_flows_that_are_small_or_large(self):
        for before in (flow((("jump", 0),), count=0, params=()), flow((("back", 0),), count=1, params=(0,)),
                       flow((("moves", (), ()), ("skip",), ("depth", 1, AT), ("jump", 0)), count=0, params=())):
            for action in (known, common, dead):
                self.check(action, before)
        blocks = []
        for number in range(319):
            behind = number + 1
            blocks.append((("op", number, "add", number + 40, number + 80), ("with", number + 1, "add", number, 3),
                           ("fork", number, behind, min(319, behind + number * 7 // 5)) if number % 3 else ("jump", behind)))
        blocks.append((("back", 399),))
        before = flow(*blocks, count=400, params=())
        for action in (known, common, dead):
            found, paper = action(before)
            self.assertTrue(judge(before, found, paper))


if __name__ == "__main__":
    unittest.main()
