"""Points 44 and 45: laying called flows in place."""

import random
import unittest

from sameruns.basics.errors import BadSite
from sameruns.lang.units import Unit
from sameruns.middle.flows import Flow, Middle
from sameruns.middle.lowering import lower
from sameruns.middle.walking import run_middle
from sameruns.papers.laid import can_lay, laid, laid_at
from tests.drawing import drawn_declarations
from tests.flowdrawing import FlowDrawer, LoopDrawer, drawn_flow, drawn_middle
from tests.secondjudge import is_wanted
from tests.walker import SmallWalker

AT = (("f", 3),)
FAR = (("f", 5), ("f", 6))


def flow(*blocks, count=4, params=(), arrays=(), name="f"):
    return Flow(name, params, count, arrays, blocks)


def leaf(*blocks, count=3, params=(0,), arrays=()):
    return Flow("g", params, count, arrays, blocks)


# A flow with one parameter that only returns what it gets.
SAME = leaf((("back", 0),), count=1)


def call(d=1, args=(0,), at=AT, name="g"):
    return ("call", d, name, args, at)


class CanLayTest(unittest.TestCase):
    def test_flows(self):
        for answer, made in (
            (True, SAME), (True, leaf((("back", 0),), params=(0, 1, 2))), (True, leaf((("word", 1, 5), ("back", 1)), params=())),
            (False, leaf((("back", 1),))), (False, leaf((("back", 0),), params=())), (False, leaf((("back", 0),), arrays=(1,))),
            (False, leaf((call(), ("back", 0)))), (False, leaf((("back", 0),), (call(), ("back", 0)))),
            (True, leaf((("word", 1, 0), ("jump", 1)), (("fork", 1, 2, 3),), (("with", 1, "add", 1, 1), ("jump", 1)), (("back", 1),))),
            (False, leaf((("fork", 0, 1, 2),), (("word", 1, 0), ("jump", 2)), (("back", 1),))),
            # What a block that is not reached wants is not wanted at the beginning.
            (True, leaf((("back", 0),), (("back", 2),))), (True, leaf((("jump", 0),), count=0, params=())),
            # Block 0 as the head of a loop.
            (False, leaf((("tell", 1, AT), ("word", 1, 3), ("jump", 0)))), (True, leaf((("word", 1, 3), ("tell", 1, AT), ("jump", 0)))),
            (True, leaf((("load", 1, "t", 0), ("write", "g", 1), ("depth", 1, AT), ("nonzero", 1, AT), ("back", 1)))),
        ):
            self.assertIs(can_lay(made), answer, made.blocks)

    def test_drawn_flows(self):
        answers = {True: 0, False: 0}
        for seed in range(1500):
            made = drawn_flow(seed, blocks=3, deeds=3)
            answer = not made.arrays and not any(deed[0] == "call" for block in made.blocks for deed in block)
            answer = answer and all(v in made.params for v in range(made.count) if is_wanted(made, 0, 0, v))
            self.assertIs(can_lay(made), answer)
            answers[answer] += 1
        self.assertGreater(min(answers.values()), 50)


class LaidAtTest(unittest.TestCase):
    def check(self, before, flows, sites, expected):
        parts = (before.parts(), [one.parts() for one in flows])
        found = laid_at(before, flows, sites)
        self.assertIsInstance(found, Flow)
        self.assertEqual(found.parts(), expected.parts())
        self.assertEqual(laid_at(before, flows, sites).parts(), expected.parts())
        self.assertEqual((before.parts(), [one.parts() for one in flows]), parts)

    def test_no_sites(self):
        before = flow((call(), ("back", 1)), params=(2,), arrays=(3,))
        self.check(before, (SAME,), (), before)
        self.check(before, (), (), before)

    def test_one_block(self):
        inside = (("depth", 1, AT), ("moves", (4,), (0,)), ("jump", 1)), (("copy", 1, 4), ("jump", 2))
        word, tell, back = ("word", 0, 5), ("tell", 1, AT), ("back", 1)
        for begin, end in (((), (back,)), ((word,), (back,)), ((), (tell, back)), ((word, word), (tell, word, back))):
            before = flow((*begin, call(), *end), params=(2,), arrays=(3,))
            self.check(before, (SAME,), (0,), flow((*begin, *inside[0]), inside[1], end, count=5, params=(2,), arrays=(3,)))

    def test_parameters(self):
        # Without parameters there is no moves.
        none = leaf((("word", 1, 7), ("back", 1)), count=2, params=())
        self.check(flow((call(args=()), ("back", 1))), (none,), (0,), flow(
            (("depth", 1, AT), ("jump", 1)), (("word", 5, 7), ("copy", 1, 5), ("jump", 2)), (("back", 1),), count=6))
        # Parameters need not be the first variables, and one variable may be passed several times.
        three = leaf((("op", 1, "sub", 4, 2), ("op", 1, "sub", 1, 0), ("back", 1)), count=5, params=(4, 2, 0))
        self.check(flow((call(2, (2, 3, 2)), ("back", 2))), (three,), (0,), flow(
            (("depth", 1, AT), ("moves", (8, 6, 4), (2, 3, 2)), ("jump", 1)),
            (("op", 5, "sub", 8, 6), ("op", 5, "sub", 5, 4), ("copy", 2, 5), ("jump", 2)), (("back", 2),), count=9))

    def test_each_kind_of_deed_in_the_called_flow(self):
        at2 = (("g", 1),)
        both = AT + at2
        for deed, made in (
            (("word", 1, -4), ("word", 5, -4)), (("copy", 1, 0), ("copy", 5, 4)), (("op", 2, "sub", 1, 0), ("op", 6, "sub", 5, 4)),
            (("with", 1, "shl", 2, 3), ("with", 5, "shl", 6, 3)), (("read", 1, "h"), ("read", 5, "h")), (("load", 1, "t", 0), ("load", 5, "t", 4)),
            (("moves", (1, 2), (2, 0)), ("moves", (5, 6), (6, 4))), (("skip",), ("skip",)), (("write", "h", 1), ("write", "h", 5)),
            (("store", "t", 1, 2), ("store", "t", 5, 6)), (("nonzero", 1, at2), ("nonzero", 5, both)), (("inside", 1, 3, at2), ("inside", 5, 3, both)),
            (("depth", 1, at2), ("depth", 2, both)), (("depth", 999, at2), ("depth", 1000, both)), (("tell", 1, at2), ("tell", 5, both)),
            (("tell", 0, FAR), ("tell", 4, AT + FAR)),
        ):
            called = leaf((("word", 1, 0), ("word", 2, 0), deed, ("back", 0)))
            self.check(flow((call(), ("back", 1))), (called,), (0,), flow(
                (("depth", 1, AT), ("moves", (4,), (0,)), ("jump", 1)), (("word", 5, 0), ("word", 6, 0), made, ("copy", 1, 4), ("jump", 2)),
                (("back", 1),), count=7))

    def test_blocks_and_targets(self):
        called = leaf((("word", 1, 0), ("jump", 1)), (("fork", 0, 2, 3),), (("with", 0, "sub", 0, 1), ("jump", 1)), (("fork", 1, 4, 5),),
                      (("back", 0),), (("back", 1),), (("jump", 0),))
        before = flow((("fork", 3, 1, 4),), (("jump", 2),), (("word", 3, 1), call(2, (3,)), ("tell", 2, AT), ("fork", 2, 3, 4)), (("jump", 2),),
                      (("fork", 3, 5, 5),), (("jump", 0),))
        self.check(before, (called,), (0,), flow(
            (("fork", 3, 1, 12),), (("jump", 2),), (("word", 3, 1), ("depth", 1, AT), ("moves", (4,), (3,)), ("jump", 3)),
            (("word", 5, 0), ("jump", 4)), (("fork", 4, 5, 6),), (("with", 4, "sub", 4, 1), ("jump", 4)), (("fork", 5, 7, 8),),
            (("copy", 2, 4), ("jump", 10)), (("copy", 2, 5), ("jump", 10)), (("jump", 3),), (("tell", 2, AT), ("fork", 2, 11, 12)), (("jump", 2),),
            (("fork", 3, 13, 13),), (("jump", 0),), count=7))

    def test_a_block_that_goes_to_itself(self):
        before = flow((("jump", 1),), (call(), ("jump", 1)))
        self.check(before, (SAME,), (0,), flow(
            (("jump", 1),), (("depth", 1, AT), ("moves", (4,), (0,)), ("jump", 2)), (("copy", 1, 4), ("jump", 3)), (("jump", 1),), count=5))

    def test_several_calls(self):
        none = Flow("h", (), 2, (), ((("word", 1, 7), ("back", 1)),))
        before = flow((call(), call(2, (), FAR, "h"), call(3, (2,)), ("jump", 1)), (call(0, (), FAR, "h"), ("back", 0)))
        flows = (none, SAME)
        first = (("depth", 1, AT), ("moves", (4,), (0,)), ("jump", 1)), (("copy", 1, 4), ("jump", 2))
        self.check(before, flows, (0,), flow(*first, (call(2, (), FAR, "h"), call(3, (2,)), ("jump", 3)), (call(0, (), FAR, "h"), ("back", 0)), count=5))
        self.check(before, flows, (1,), flow(
            (call(), ("depth", 1, FAR), ("jump", 1)), (("word", 5, 7), ("copy", 2, 5), ("jump", 2)), (call(3, (2,)), ("jump", 3)),
            (call(0, (), FAR, "h"), ("back", 0)), count=6))
        self.check(before, flows, (0, 2), flow(
            *first, (call(2, (), FAR, "h"), ("depth", 1, AT), ("moves", (5,), (2,)), ("jump", 3)), (("copy", 3, 5), ("jump", 4)), (("jump", 5),),
            (call(0, (), FAR, "h"), ("back", 0)), count=6))
        self.check(before, flows, (0, 1, 2, 3), flow(
            *first, (("depth", 1, FAR), ("jump", 3)), (("word", 6, 7), ("copy", 2, 6), ("jump", 4)),
            (("depth", 1, AT), ("moves", (7,), (2,)), ("jump", 5)), (("copy", 3, 7), ("jump", 6)), (("jump", 7),),
            (("depth", 1, FAR), ("jump", 8)), (("word", 9, 7), ("copy", 0, 9), ("jump", 9)), (("back", 0),), count=10))

    def test_a_call_that_reads_and_assigns_the_same_variable(self):
        self.check(flow((call(0, (0,)), ("back", 0))), (SAME,), (0,), flow(
            (("depth", 1, AT), ("moves", (4,), (0,)), ("jump", 1)), (("copy", 0, 4), ("jump", 2)), (("back", 0),), count=5))

    def test_bad_sites(self):
        other = Flow("h", (0,), 1, (2,), ((("back", 0),),))
        before = flow((call(), call(2, (1,), FAR, "h"), call(3, (2,)), call(3, (3,), AT, "f"), call(1, (1,), AT, "zz"), ("back", 3)), params=(0,))
        flows = (other, before, SAME)
        for sites, index in (((-1,), 0), ((5,), 0), ((1,), 0), ((3,), 0), ((4,), 0), ((2 ** 40,), 0), ((0, 0), 1), ((2, 0), 1), ((0, 1, 2), 1),
                             ((0, 2, 2), 2), ((0, 2, 4), 2), ((0, 2, 5), 2), ((0, 2, 1), 2), ((0, -1), 1), ((1, 1), 0), ((0, 2, 2, 9), 2)):
            with self.assertRaises(BadSite) as caught:
                laid_at(before, flows, sites)
            self.assertEqual(caught.exception.index, index, sites)
        with self.assertRaises(BadSite):
            laid_at(flow((call(), ("back", 1))), flows, (-1,))
        for sites in ((), (0,), (2,), (0, 2)):
            laid_at(before, flows, sites)
        with self.assertRaises(BadSite):
            laid_at(before, (other,), (0,))


class LaidTest(unittest.TestCase):
    def check(self, before, flows, sites):
        """Compare laid with the sites that it must find."""
        parts = (before.parts(), [one.parts() for one in flows])
        found = laid(before, flows)
        self.assertIs(type(found), tuple)
        self.assertEqual(found[1], sites)
        self.assertEqual(found[0].parts(), laid_at(before, flows, sites).parts())
        self.assertEqual((before.parts(), [one.parts() for one in flows]), parts)
        again = laid(before, flows)
        self.assertEqual((again[0].parts(), again[1]), (found[0].parts(), found[1]))

    def test_which_calls_become_sites(self):
        other = Flow("h", (0,), 1, (2,), ((("back", 0),),))
        calls = call(), call(2, (1,), AT, "h"), call(3, (2,)), call(3, (3,), AT, "f"), call(3, (3,), AT, "zz"), call(1, (3,))
        before = flow((*calls, ("back", 3)), params=(0,))
        self.check(before, (other, before, SAME), (0, 2, 5))
        self.check(before, (other, before), ())
        self.check(before, (), ())
        self.check(flow((("back", 0),)), (SAME,), ())
        # A flow that calls itself is never laid in, and one that calls another one is not either.
        self.check(SAME, (SAME, before), ())
        self.check(flow((call(1, (2,), AT, "f"), ("back", 1)), params=(0,)), (before, SAME), ())

    def test_chains(self):
        def chain(many):
            return tuple([("f", number) for number in range(many)])

        for one, two in ((1, 7), (1, 8), (7, 1), (8, 1), (4, 4), (4, 5), (8, 0), (2, 6), (3, 6)):
            deeds = (("tell", 0, AT), ("tell", 0, chain(two))) if two else ()
            called = leaf((("jump", 1),), (*deeds, ("back", 0)))
            for at, good in ((chain(one), one + max(two, 0) <= 8), (chain(9 - one), 9 - one + two <= 8)):
                self.check(flow((call(at=at), call(), ("back", 1))), (called,), ((0,) if good else ()) + ((1,) if two <= 7 else ()))
        for kind in (("nonzero", 0, chain(8)), ("inside", 0, 4, chain(8)), ("depth", 4, chain(8))):
            self.check(flow((call(), ("back", 1))), (leaf((kind, ("back", 0))),), ())
            self.check(flow((call(), ("back", 1))), (leaf((kind[:-1] + (chain(7),), ("back", 0))),), (0,))

    def test_the_bound_of_variables(self):
        for count, answer in ((318, (0,)), (319, (0,)), (320, ()), (321, ())):
            self.check(flow((call(), ("back", 1)), count=count), (SAME,), answer)
        # A later call may fit where an earlier one does not.
        big = Flow("big", (0,), 10, (), ((("back", 0),),))
        self.check(flow((call(name="big"), call(), call(name="big"), call(), ("back", 1)), count=318), (big, SAME), (1, 3))
        self.check(flow((call(name="big"), call(), call(name="big"), ("back", 1)), count=309), (big, SAME), (0, 1))

    def test_the_bound_of_blocks(self):
        for many, answer in ((116, (0, 1)), (117, (0,)), (118, (0,)), (119, ()), (120, ()), (130, ())):
            before = flow(*[(("jump", number + 1),) for number in range(many - 1)], (call(), call(), ("back", 1)))
            self.check(before, (SAME,), answer)

    def test_the_bound_of_deeds(self):
        # Each call becomes depth, moves, jump, copy and jump: four deeds more.
        for many, answer in ((389, (0, 1)), (390, (0, 1)), (391, (0,)), (393, (0,)), (394, (0,)), (395, ()), (398, ())):
            before = flow((*[("skip",)] * (many - 1), call(), call(), ("back", 1)))
            self.check(before, (SAME,), answer)
        # Without parameters, and with two backs.
        called = leaf((("word", 1, 2), ("fork", 1, 1, 2)), (("back", 1),), (("back", 1),), params=())
        for many, answer in ((391, (0,)), (392, ()), (393, ())):
            self.check(flow((*[("skip",)] * many, call(args=()), ("back", 1))), (called,), answer)

    def test_drawn_flows_one_by_one(self):
        found_sites = 0
        for seed in range(300):
            chance = random.Random(seed)
            middle = drawn_middle(seed, deeds=chance.choice((6, 20)), most=chance.choice((7, 100)))
            for before in middle.flows:
                sites = self.sites_of(before, middle.flows)
                self.check(before, middle.flows, sites)
                found_sites += len(sites)
        self.assertGreater(found_sites, 100)

    def sites_of(self, before, flows):
        """The sites that point 45 names, by looking at whole laid flows."""
        by_name = {one.name: one for one in flows}
        sites = ()
        calls = [deed for block in before.blocks for deed in block if deed[0] == "call"]
        for number, deed in enumerate(calls):
            called = by_name.get(deed[2])
            if called is None or not can_lay(called):
                continue
            chains = [inner[-1] for block in called.blocks for inner in block if inner[0] in ("nonzero", "inside", "depth", "tell")]
            if any([len(deed[4]) + len(chain) > 8 for chain in chains]):
                continue
            grown = laid_at(before, flows, (*sites, number))
            if grown.count <= 320 and len(grown.blocks) <= 120 and sum([len(block) for block in grown.blocks]) <= 400:
                sites = (*sites, number)
        return sites


class SameRunTest(unittest.TestCase):
    """The run does not change but for its steps."""

    def check(self, middle, depth, rounds, sites=None):
        flows = middle.flows
        made = [laid(one, flows) if sites is None else (laid_at(one, flows, sites[one.name]), sites[one.name]) for one in flows]
        changed = Middle(middle.words, middle.arrays, [one for one, _ in made])
        small = SmallWalker(middle, depth)
        small.go(rounds, 3000)
        if small.end is None and small.steps == 3000:
            return 0
        run = run_middle(changed, depth=depth, rounds=rounds, steps=20000)
        self.assertEqual(run.shown(), small.shown())
        return sum([len(row) for _, row in made])

    def test_drawn_middles(self):
        done = 0
        for seed in range(800):
            middle = drawn_middle(seed, LoopDrawer if seed % 2 else FlowDrawer, deeds=3)
            for depth in (1, 2, 3, 32):
                done += self.check(middle, depth, 15)
        self.assertGreater(done, 200)

    def test_drawn_sites(self):
        done = 0
        for seed in range(400):
            chance = random.Random(seed)
            middle = drawn_middle(seed)
            able = [one.name for one in middle.flows if can_lay(one)]
            sites = {}
            for one in middle.flows:
                calls = [deed[2] for block in one.blocks for deed in block if deed[0] == "call"]
                sites[one.name] = tuple([n for n, name in enumerate(calls) if name in able and chance.random() < 0.6])
            done += self.check(middle, chance.choice((1, 2, 32)), 15, sites)
        self.assertGreater(done, 50)

    def test_lowered_programs(self):
        done = 0
        for seed in range(200):
            middle = lower(Unit((), drawn_declarations(seed, 4, 60)))
            for _ in range(3):
                for depth in (1, 2, 3, 32):
                    done += self.check(middle, depth, 12)
                middle = Middle(middle.words, middle.arrays, [laid(one, middle.flows)[0] for one in middle.flows])
        self.assertGreater(done, 500)

    def test_rounds_of_the_called_flow(self):
        called = leaf((("word", 1, 3), ("jump", 1)), (("with", 1, "sub", 1, 1), ("tell", 1, (("g", 0),)), ("fork", 1, 2, 3)), (("jump", 1),), (("back", 1),))
        main = Flow("main", (), 3, (), ((("jump", 1),), (call(2, (0,), (("main", 1),)), ("with", 0, "add", 0, 1), ("tell", 0, (("main", 2),)), ("jump", 1))))
        for rounds in range(12):
            for depth in (1, 2):
                self.check(Middle((), (), (called, main)), depth, rounds)
        made = laid(main, (called, main))[0]
        self.assertEqual(run_middle(Middle((), (), (called, made)), depth=1).end, ("trap", "depth", (("main", 1),)))


if __name__ == "__main__":
    unittest.main()
