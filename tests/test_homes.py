"""Points 47 to 50: homes that fit, renamed flows, and choosing."""

import random
import unittest

from sameruns.basics.errors import BadFree
from sameruns.homes.cells import LOST, REGISTERS
from sameruns.homes.choosing import choose
from sameruns.homes.fitting import fits
from sameruns.homes.renaming import renamed
from sameruns.lang.units import Unit
from sameruns.middle.flows import Flow, Middle
from sameruns.middle.lowering import lower
from sameruns.middle.walking import Walker, run_middle
from sameruns.papers.improving import improved
from sameruns.source.source import run_source
from tests.drawing import drawn_declarations
from tests.flowdrawing import FlowDrawer, LoopDrawer, drawn_flow, drawn_looping_flow, drawn_middle
from tests.secondjudge import is_wanted, is_wanted_behind, reached_blocks
from tests.test_lowering import FILLINGS, full
from tests.walker import assigned_by

AT = (("f", 0),)


def flow(*blocks, count=3, params=(), arrays=()):
    return Flow("f", params, count, arrays, blocks)


def conflicts(made):
    """Rules 2 to 4 of point 48: the set of the pairs of variables whose homes must be different."""
    pairs = set()

    def differ(some):
        pairs.update([(a, b) for a in some for b in some if a != b])

    differ([v for v in range(made.count) if v in made.params or is_wanted(made, 0, 0, v)])
    for number, block in enumerate(made.blocks):
        for position, deed in enumerate(block):
            if deed[0] == "moves":
                differ(deed[1])
            if number not in reached_blocks(made):
                continue
            for d in assigned_by(deed):
                for v in range(made.count):
                    if v in assigned_by(deed) or not is_wanted_behind(made, number, position, v):
                        continue
                    if deed == ("copy", d, v) or (deed[0] == "moves" and (d, v) in list(zip(deed[1], deed[2]))):
                        continue
                    pairs.update([(d, v), (v, d)])
    return pairs


def lasting(made):
    """Rule 5 of point 48: the variables that may not have a lost register."""
    return {v for number in reached_blocks(made) for position, deed in enumerate(made.blocks[number]) if deed[0] == "call"
            for v in range(made.count) if v != deed[1] and is_wanted_behind(made, number, position, v)}


def may_be(homes, free, pairs, kept):
    """Point 48."""
    registers = (8, 10, 9, 11, 18, 12, 19, 13, 20, 14, 21, 15, 22, 16, 23, 17, 24, 25, 26, 27)[:free]
    if not all([home in registers or 32 <= home <= 351 for home in homes]):
        return False
    return all([homes[a] != homes[b] for a, b in pairs]) and not any([10 <= homes[v] <= 17 for v in kept])


class CellsTest(unittest.TestCase):
    def test_registers(self):
        self.assertEqual(REGISTERS, (8, 10, 9, 11, 18, 12, 19, 13, 20, 14, 21, 15, 22, 16, 23, 17, 24, 25, 26, 27))
        self.assertEqual(LOST, (10, 11, 12, 13, 14, 15, 16, 17))


class FitsTest(unittest.TestCase):
    def check(self, made, free, *rows):
        """Compare the answers for homes with those that are expected, and with a second reading."""
        parts = made.parts()
        pairs, kept = conflicts(made), lasting(made)
        for homes, answer in rows:
            self.assertIs(fits(made, homes, free), answer, (made.blocks, homes, free))
            self.assertIs(may_be(homes, free, pairs, kept), answer)
        self.assertEqual(made.parts(), parts)

    def test_examples_of_the_interface(self):
        made = flow((("op", 2, "add", 0, 1), ("back", 2)), params=(0, 1))
        self.check(made, 2, ((8, 10, 8), True), ((8, 8, 10), False), ((8, 10, 9), False))
        self.check(made, 0, ((32, 33, 32), True))

    def test_rule_1(self):
        made = flow((("word", 0, 1), ("back", 0)), count=1)
        for home in range(0, 1001):
            self.check(made, 0, ((home,), 32 <= home <= 351))
            self.check(made, 20, ((home,), home in REGISTERS or 32 <= home <= 351))
        for free in range(21):
            for number, home in enumerate(REGISTERS):
                self.check(made, free, ((home,), number < free))
            self.check(made, free, ((31,), False), ((32,), True), ((351,), True), ((352,), False), ((0,), False), ((5,), False), ((28,), False))
        # A variable that occurs nowhere has a home, too.
        self.check(flow((("back", 0),), count=2, params=(0,)), 2, ((8, 8), True), ((8, 351), True), ((8, 352), False), ((8, 9), False), ((8, 0), False))

    def test_rule_2(self):
        made = flow((("op", 3, "add", 1, 2), ("back", 3)), count=5, params=(0, 1))
        self.check(made, 4, ((8, 10, 9, 8, 8), True), ((8, 8, 9, 8, 8), False), ((8, 10, 10, 8, 8), False), ((8, 10, 8, 8, 8), False),
                   ((8, 10, 9, 10, 9), True), ((32, 33, 34, 32, 32), True), ((32, 33, 33, 32, 32), False))
        # Parameters that are never wanted count as well.
        self.check(flow((("word", 2, 1), ("back", 2)), params=(0, 1)), 2, ((8, 10, 8), True), ((8, 8, 8), False), ((32, 32, 8), False))
        self.check(flow((("back", 0),), count=1, params=(0,)), 0, ((32,), True))

    def test_rule_3(self):
        for deed in (("word", 2, 1), ("op", 2, "add", 0, 1), ("with", 2, "add", 0, 1), ("read", 2, "g"), ("load", 2, "t", 0), ("call", 2, "g", (), AT),
                     ("moves", (2,), (0,)), ("copy", 2, 0)):
            made = flow((deed, ("write", "g", 1), ("back", 2)), params=(0, 1))
            self.check(made, 3, ((8, 9, 8), True), ((8, 9, 9), False), ((8, 32, 32), False), ((8, 32, 33), True))
            # Also if the assigned variable is not wanted behind the deed.
            made = flow((deed, ("back", 1)), params=(0, 1))
            self.check(made, 3, ((8, 9, 8), True), ((8, 9, 9), False))
        for deed in (("tell", 2, AT), ("store", "t", 2, 2), ("nonzero", 2, AT), ("skip",)):
            self.check(flow((("word", 2, 1), deed, ("back", 2)), params=(0, 1)), 3, ((8, 9, 9), True))

    def test_rule_3_copies(self):
        made = flow((("copy", 2, 1), ("tell", 2, AT), ("back", 1)), params=(0, 1))
        self.check(made, 2, ((8, 10, 10), True), ((8, 10, 8), True))
        # The same word, but got in another way.
        for deed in (("with", 2, "add", 1, 0), ("op", 2, "or", 1, 1)):
            self.check(flow((deed, ("tell", 2, AT), ("back", 1)), params=(0, 1)), 2, ((8, 10, 10), False), ((8, 10, 8), True))
        # Another deed keeps them apart.
        made = flow((("copy", 2, 1), ("tell", 2, AT), ("with", 2, "add", 2, 1), ("tell", 2, AT), ("back", 1)), params=(0, 1))
        self.check(made, 2, ((8, 10, 10), False), ((8, 10, 8), True))
        self.check(flow((("copy", 2, 2), ("back", 2)), params=(0, 1)), 3, ((8, 10, 9), True), ((8, 10, 10), False))

    def test_rule_3_moves(self):
        made = flow((("moves", (2, 3), (0, 1)), ("op", 2, "add", 2, 0), ("op", 2, "add", 2, 1), ("op", 2, "add", 2, 3), ("back", 2)), count=4, params=(0, 1))
        # 2 has the word of 0, but is changed while 0 is wanted no longer; 3 and 1 may share.
        self.check(made, 8, ((8, 10, 9, 10), True), ((8, 10, 8, 9), True), ((8, 10, 10, 9), False), ((8, 10, 9, 8), False), ((8, 10, 8, 10), True),
                   ((8, 10, 9, 9), False), ((8, 10, 9, 11), True))
        swap = flow((("moves", (0, 1), (1, 0)), ("op", 2, "sub", 0, 1), ("back", 2)), params=(0, 1))
        self.check(swap, 3, ((8, 10, 9), True), ((8, 10, 8), True), ((8, 8, 9), False))

    def test_rule_4(self):
        # Neither is wanted behind, and the block is not reached.
        made = flow((("back", 0),), (("moves", (1, 2), (0, 0)), ("jump", 1)), params=(0,))
        self.check(made, 3, ((8, 8, 8), False), ((8, 10, 8), True), ((8, 10, 10), False), ((8, 8, 10), True))
        self.check(flow((("moves", (1, 2), (0, 0)), ("back", 0)), params=(0,)), 3, ((8, 10, 10), False), ((8, 10, 9), True), ((8, 8, 9), True))

    def test_rule_5(self):
        made = flow((("call", 1, "g", (0, 2), AT), ("op", 1, "add", 1, 0), ("back", 1)), params=(0, 2))
        for lost in LOST:
            self.check(made, 20, ((lost, 8, 9), False), ((8, lost, 9), True), ((8, 9, lost), True), ((9, lost, lost), True), ((32, lost, 8), True))
        for kept in (8, 9, 18, 19, 20, 21, 22, 23, 24, 25, 26, 27, 32, 351):
            self.check(made, 20, ((kept, 10, 11), True))
        # The variable that the call assigns may have one, also if it is passed.
        made = flow((("call", 0, "g", (0,), AT), ("back", 0)), count=1, params=(0,))
        self.check(made, 20, ((10,), True), ((17,), True))
        # Wanted behind one of two calls.
        made = flow((("call", 1, "g", (), AT), ("call", 2, "g", (), AT), ("op", 1, "add", 1, 2), ("back", 1)))
        self.check(made, 20, ((8, 9, 10), True), ((8, 10, 9), False))

    def test_blocks_that_are_not_reached(self):
        for deed in (("word", 1, 3), ("call", 1, "g", (), AT)):
            rest = (deed, ("tell", 0, AT), ("tell", 1, AT), ("jump", 1))
            self.check(flow((("back", 0),), rest, count=2, params=(0,)), 20, ((10, 10), True), ((8, 8), True), ((10, 9), True))
            self.check(flow((("jump", 1),), rest, count=2, params=(0,)), 20, ((10, 10), False), ((8, 8), False), ((10, 9), deed[0] == "word"))
        # What such a block wants behind a block that is reached does not count there either.
        made = flow((("word", 1, 1), ("back", 1)), (("tell", 0, AT), ("jump", 0)), count=2)
        self.check(made, 20, ((8, 8), True))

    def test_free(self):
        made = flow((("word", 0, 1), ("back", 0)), count=1)
        for free in (-1, 21, 22, -(2 ** 40), 2 ** 40):
            with self.assertRaises(BadFree) as caught:
                fits(made, (32,), free)
            self.assertEqual(caught.exception.free, free)
            with self.assertRaises(BadFree) as caught:
                choose(made, free)
            self.assertEqual(caught.exception.free, free)
        for free in (0, 20):
            self.assertTrue(fits(made, (32,), free))

    def test_a_flow_without_variables(self):
        made = flow((("jump", 0),), count=0)
        self.check(made, 0, ((), True))
        self.assertEqual(choose(made, 5), ())
        self.assertEqual(renamed(made, ()).parts(), ("f", (), 32, (), ((("jump", 0),),)))

    def test_drawn_homes(self):
        answers = {True: 0, False: 0}
        for seed in range(300):
            chance = random.Random(seed)
            made = (drawn_flow if seed % 3 else drawn_looping_flow)(seed, blocks=4, deeds=3)
            pairs, kept = conflicts(made), lasting(made)
            for _ in range(12):
                free = chance.randint(0, 20)
                homes = list(choose(made, free))
                for _ in range(chance.randint(0, 2)):
                    if homes:
                        homes[chance.randrange(made.count)] = chance.choice((8, 9, 10, 11, 18, 32, 33, 34, 351, 352, 31, *homes))
                answer = may_be(homes, free, pairs, kept)
                self.assertIs(fits(made, tuple(homes), free), answer)
                answers[answer] += 1
        self.assertGreater(min(answers.values()), 500)


class ChooseTest(unittest.TestCase):
    def check(self, made, free, needless=True):
        parts = made.parts()
        homes = choose(made, free)
        self.assertIs(type(homes), tuple)
        self.assertEqual(len(homes), made.count)
        self.assertTrue(fits(made, homes, free))
        self.assertEqual(choose(made, free), homes)
        self.assertEqual(made.parts(), parts)
        if needless:
            pairs, kept = conflicts(made), lasting(made)
            self.assertTrue(may_be(homes, free, pairs, kept))
            for variable, home in enumerate(homes):
                if home >= 32:
                    for number in REGISTERS[:free]:
                        self.assertFalse(may_be((*homes[:variable], number, *homes[variable + 1:]), free, pairs, kept))
        return homes

    def test_drawn_flows(self):
        slots = 0
        for seed in range(100):
            made = (drawn_flow if seed % 3 else drawn_looping_flow)(seed, most=9)
            for free in (0, 1, 2, 3, 5, 8, 20) if seed % 10 else range(21):
                slots += len([home for home in self.check(made, free) if home >= 32 and free])
        self.assertGreater(slots, 500)

    def test_lowered_flows(self):
        for seed in range(25):
            middle = improved(lower(Unit((), drawn_declarations(seed, 3, 60))), ("laid", "known", "common", "fixed", "dead")[seed % 5:])
            for made in middle.flows:
                self.check(made, seed % 21, made.count < 40)
        for filling in FILLINGS[::4]:
            for free in (0, 4, 20):
                self.check(lower(full(filling)).flow("q"), free, False)

    def test_many_variables_that_are_wanted_at_once(self):
        for count in (20, 21, 318, 319, 320):
            deeds = [("word", v, v) for v in range(count)] + [("tell", v, AT) for v in range(count)]
            made = flow((*deeds, ("back", 0)), count=count)
            self.assertEqual(sorted(self.check(made, 0, False)), list(range(32, 32 + count)))
            homes = self.check(made, 20, False)
            self.assertEqual(sorted(homes), sorted(REGISTERS) + list(range(32, 12 + count)))
            self.check(flow((*deeds[:count], ("call", 0, "g", (), AT), *deeds[count:], ("back", 0)), count=count), 20, False)
            begin = flow((*deeds[count:], ("back", 0)), count=count)
            self.assertEqual(len(dict.fromkeys(self.check(begin, 0, False))), count)
        together = flow((*[("moves", tuple(range(at, at + 20)), (0,) * 20) for at in range(0, 320, 20)], *[("tell", v, AT) for v in range(320)], ("back", 0)),
                        count=320)
        self.check(together, 3, False)

    def test_calls_need_kept_registers(self):
        made = flow((("word", 0, 1), ("call", 1, "g", (), AT), ("op", 2, "add", 0, 1), ("back", 2)))
        for free in range(21):
            homes = self.check(made, free)
            self.assertEqual(homes[0] >= 32, free == 0)
            self.assertNotIn(homes[0], LOST)
        made = flow((*[("word", v, 1) for v in range(14)], ("call", 14, "g", (), AT), *[("tell", v, AT) for v in range(15)], ("back", 0)), count=15)
        self.assertEqual(len([home for home in self.check(made, 20) if home >= 32]), 2)


class RenamedTest(unittest.TestCase):
    def test_every_place_and_the_count(self):
        made = Flow("f", (2, 0), 5, (3, 1), (
            (("word", 1, 5), ("copy", 1, 0), ("op", 3, "sub", 0, 1), ("with", 3, "sub", 3, 4), ("read", 4, "g"), ("load", 4, 1, 4), ("load", 4, "t", 4),
             ("moves", (1, 4), (4, 1)), ("skip",), ("write", "g", 1), ("store", 0, 1, 4), ("nonzero", 1, AT), ("inside", 4, 2, AT), ("depth", 3, AT),
             ("call", 3, "g", (0, 1, 4), AT), ("tell", 3, AT), ("fork", 3, 1, 2)),
            (("jump", 0),), (("back", 4),), (("copy", 4, 0), ("back", 3))))
        homes = (8, 40, 9, 18, 27)
        before = made.parts()
        found = renamed(made, homes)
        self.assertIsInstance(found, Flow)
        self.assertEqual(found.parts(), ("f", (9, 8), 41, (3, 1), (
            (("word", 40, 5), ("copy", 40, 8), ("op", 18, "sub", 8, 40), ("with", 18, "sub", 18, 4), ("read", 27, "g"), ("load", 27, 1, 27),
             ("load", 27, "t", 27), ("moves", (40, 27), (27, 40)), ("skip",), ("write", "g", 40), ("store", 0, 40, 27), ("nonzero", 40, AT),
             ("inside", 27, 2, AT), ("depth", 3, AT), ("call", 18, "g", (8, 40, 27), AT), ("tell", 18, AT), ("fork", 18, 1, 2)),
            (("jump", 0),), (("back", 27),), (("copy", 27, 8), ("back", 18)))))
        self.assertEqual(made.parts(), before)

    def test_the_count(self):
        made = flow((("word", 0, 1), ("back", 0)), count=2)
        for homes, count in (((8, 8), 32), ((27, 26), 32), ((32, 8), 33), ((8, 32), 33), ((351, 8), 352), ((34, 32), 35)):
            self.assertEqual(renamed(made, homes).count, count)
        self.assertEqual(renamed(flow((("jump", 0),), count=0), ()).count, 32)


class InStepTest(unittest.TestCase):
    """The last rule of point 49."""

    def check(self, middle, chance, depth, rounds=20, steps=120):
        homes = {}
        for made in middle.flows:
            free = chance.randint(0, 20)
            homes[made.name] = self.other_homes(made, free, chance)
        new = [renamed(made, homes[made.name]) for made in middle.flows]
        one = Walker(middle, depth=depth)
        other = Walker(Middle(middle.words, middle.arrays, new), depth=depth)
        for step in range(steps + 1):
            one.go(rounds=rounds, steps=step)
            other.go(rounds=rounds, steps=step)
            self.assertEqual((one.run().shown(), one.run().steps), (other.run().shown(), other.run().steps))
            if one.run().end is not None or one.run().steps < step:
                return step
            self.assertEqual((one.place(), one.opened(), one.local_items()), (other.place(), other.opened(), other.local_items()))
            name, block, position = one.place()
            here, there = one.variables(), other.variables()
            for variable in self.wanted_at(middle, name, block, position):
                self.assertEqual(here[variable], there[homes[name][variable]])
        return steps

    def other_homes(self, made, free, chance):
        """Homes that fit, and need not be those that are chosen."""
        homes = list(choose(made, free))
        for _ in range(6):
            if homes:
                variable, home = chance.randrange(made.count), chance.choice((*REGISTERS, *range(32, 40), *homes))
                other = (*homes[:variable], home, *homes[variable + 1:])
                if fits(made, other, free):
                    homes = list(other)
        return tuple(homes)

    def wanted_at(self, middle, name, block, position):
        """The variables that are wanted at a place."""
        key = (name, block, position)
        if key not in self.found:
            made = middle.flow(name)
            self.found[key] = [v for v in range(made.count) if is_wanted(made, block, position, v)]
        return self.found[key]

    def test_drawn_middles(self):
        total = 0
        for seed in range(400):
            self.found = {}
            chance = random.Random(seed)
            middle = drawn_middle(seed, LoopDrawer if seed % 2 else FlowDrawer, deeds=4)
            total += self.check(middle, chance, chance.choice((1, 3, 32)))
        self.assertGreater(total, 5000)

    def test_lowered_programs(self):
        for seed in range(120):
            chance = random.Random(seed)
            unit = Unit((), drawn_declarations(seed, 4, 70))
            passes = chance.choice(((), ("known", "dead"), ("laid", "fixed", "common"), ("fixed", "laid", "known", "common", "dead")))
            middle = improved(lower(unit), passes)
            new = [renamed(made, choose(made, chance.randint(0, 20))) for made in middle.flows]
            source = run_source([unit], depth=20, rounds=12, steps=3000)
            if source.steps < 3000:
                run = run_middle(Middle(middle.words, middle.arrays, new), depth=20, rounds=12)
                self.assertEqual(run.shown(), source.shown())


if __name__ == "__main__":
    unittest.main()
