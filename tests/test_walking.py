"""Points 6, 7, 8, 26, 27, 28 and 30: the run of the middle."""

import random
import unittest

from sameruns.basics.errors import BadDepth
from sameruns.basics.operations import OPERATIONS, result
from sameruns.basics.runs import Run
from sameruns.lang.unitreading import read_unit
from sameruns.lang.units import Unit, parted
from sameruns.middle.flows import Flow, Middle
from sameruns.middle.lowering import lower
from sameruns.middle.walking import Walker, run_middle
from sameruns.source.source import Source, run_source
from tests.drawing import drawn_cut, drawn_declarations
from tests.flowdrawing import drawn_middle
from tests.walker import SmallWalker

AT = (("main", 0),)
FAR = (("main", 1), ("f", 2), ("q", 3))
WORDS = (("g", 5), ("h", -6))
ARRAYS = (("t", 3), ("u", 1))


def middle(*blocks, count=6, arrays=(2,), more=()):
    """A middle with this main and further flows."""
    return Middle(WORDS, ARRAYS, (*more, Flow("main", (), count, arrays, blocks)))


def shown(made, **limits):
    """All that the run of a middle has."""
    found = run_middle(made, **limits)
    return (found.told, found.end, found.steps, found.rounds)


def behind(*deeds, more=()):
    """A walker behind these deeds of main."""
    walker = Walker(middle((*deeds, ("back", 0)), more=more))
    walker.go(steps=len(deeds))
    return walker


class DeedsTest(unittest.TestCase):
    def test_plain_deeds(self):
        begin = (("word", 1, 7), ("word", 2, -3), ("word", 3, 2))
        for deed, variables in (
            (("word", 4, -2147483648), [0, 7, -3, 2, -2147483648, 0]), (("copy", 0, 2), [-3, 7, -3, 2, 0, 0]),
            (("copy", 1, 1), [0, 7, -3, 2, 0, 0]), (("op", 1, "sub", 2, 1), [0, -10, -3, 2, 0, 0]),
            (("op", 4, "quo", 1, 0), [0, 7, -3, 2, -1, 0]), (("with", 5, "shl", 1, 33), [0, 7, -3, 2, 0, 14]),
            (("with", 2, "lt", 2, 0), [0, 7, 1, 2, 0, 0]), (("read", 4, "g"), [0, 7, -3, 2, 5, 0]),
            (("load", 1, "t", 3), [0, 0, -3, 2, 0, 0]), (("load", 1, 0, 0), [0, 0, -3, 2, 0, 0]), (("skip",), [0, 7, -3, 2, 0, 0]),
            (("moves", (1, 2, 3), (2, 3, 1)), [0, -3, 2, 7, 0, 0]), (("moves", (), ()), [0, 7, -3, 2, 0, 0]),
            (("moves", (4, 1), (1, 2)), [0, -3, -3, 2, 7, 0]), (("moves", (5, 0), (3, 3)), [2, 7, -3, 2, 0, 2]),
        ):
            walker = behind(*begin, deed)
            self.assertEqual(walker.variables(), variables, deed)
            self.assertEqual(walker.run().shown(), ((), None, 0))
            self.assertEqual((walker.global_word("g"), walker.global_word("h")), (5, -6))

    def test_each_operation(self):
        for name in OPERATIONS:
            for a, b in ((7, -2), (-2147483648, -1), (5, 0), (3, 3)):
                walker = behind(("word", 1, a), ("word", 2, b), ("op", 3, name, 1, 2), ("with", 4, name, 1, b))
                self.assertEqual(walker.variables(), [0, a, b, result(name, a, b), result(name, a, b), 0])

    def test_global_words_and_arrays(self):
        walker = behind(("word", 1, 9), ("write", "g", 1), ("read", 2, "g"), ("read", 3, "h"), ("word", 4, 2), ("store", "t", 4, 1),
                        ("load", 5, "t", 4), ("store", 0, 0, 5), ("store", "u", 0, 0))
        self.assertEqual(walker.variables(), [0, 9, 9, -6, 2, 9])
        self.assertEqual((walker.global_word("g"), walker.global_word("h")), (9, -6))
        self.assertEqual((walker.global_items("t"), walker.global_items("u")), ([0, 0, 9], [0]))
        self.assertEqual(walker.local_items(), [[9, 0]])

    def test_checks(self):
        for deed, end in (
            (("nonzero", 1, AT), None), (("nonzero", 0, FAR), ("trap", "divide", FAR)), (("nonzero", 2, AT), None),
            (("inside", 1, 4, AT), None), (("inside", 1, 3, FAR), ("trap", "index", FAR)), (("inside", 0, 1, AT), None),
            (("inside", 2, 1000, AT), ("trap", "index", AT)), (("depth", 1, AT), None), (("depth", 31, AT), None),
            (("depth", 32, FAR), ("trap", "depth", FAR)), (("depth", 5000, AT), ("trap", "depth", AT)),
        ):
            made = middle((("word", 1, 3), ("word", 2, -1), deed, ("tell", 1, AT), ("back", 1)))
            if end is None:
                self.assertEqual(shown(made), (((3, AT),), ("end", 3), 5, 0))
            else:
                self.assertEqual(shown(made), ((), end, 3, 0))

    def test_wild_ends(self):
        for row, length in (("t", 3), ("u", 1), (0, 2)):
            for index in (-2147483648, -1, 0, length - 1, length, 2147483647):
                for deed in (("load", 2, row, 1), ("store", row, 1, 3)):
                    walker = Walker(middle((("word", 1, index), ("word", 2, 8), ("word", 3, 4), deed, ("back", 3))))
                    walker.go()
                    run = walker.run()
                    if 0 <= index < length:
                        self.assertEqual((run.end, run.steps), (("end", 4), 5))
                        continue
                    self.assertEqual((run.told, run.end, run.steps, run.rounds), ((), ("wild",), 4, 0))
                    self.assertEqual((walker.variables(), walker.local_items()), ([0, index, 8, 4, 0, 0], [[0, 0]]))
                    self.assertEqual((walker.global_items("t"), walker.global_items("u")), ([0, 0, 0], [0]))

    def test_ends_of_blocks(self):
        made = middle((("fork", 1, 1, 2),), (("back", 1),), (("word", 1, -5), ("fork", 1, 3, 4)), (("jump", 5),),
                      (("back", 0),), (("tell", 1, AT), ("back", 1)))
        self.assertEqual(shown(made), (((-5, AT),), ("end", -5), 6, 0))
        self.assertEqual(shown(middle((("fork", 0, 1, 1),), (("back", 3),))), ((), ("end", 0), 2, 0))

    def test_a_flow_without_variables(self):
        self.assertEqual(shown(middle((("moves", (), ()), ("skip",), ("jump", 0)), count=0), rounds=2), ((), None, 8, 2))
        self.assertEqual(Walker(middle((("jump", 0),), count=0, arrays=())).variables(), [])


class CallsTest(unittest.TestCase):
    def test_arguments_zeros_and_the_word_that_comes_back(self):
        made = middle((("word", 1, 30), ("word", 2, 4), ("call", 2, "add", (1, 2), FAR), ("tell", 2, AT), ("back", 2)),
                      more=(Flow("add", (2, 0), 4, (), ((("op", 3, "sub", 2, 0), ("back", 3)),)),))
        self.assertEqual(shown(made), (((26, AT),), ("end", 26), 7, 0))

    def test_new_zeros_at_each_opening(self):
        # It fills all of its variables and items, and returns.
        filling = Flow("fill", (2, 0), 4, (2, 1), ((("copy", 1, 2), ("word", 3, 0), ("store", 0, 3, 2), ("store", 1, 3, 2), ("back", 1)),))
        walker = Walker(middle((("word", 1, 30), ("call", 2, "fill", (1, 0), FAR), ("call", 3, "fill", (2, 1), AT), ("back", 3)),
                               more=(filling,)))
        for begin, variables in ((2, [0, 0, 30, 0]), (8, [30, 0, 30, 0])):
            walker.go(steps=begin)
            self.assertEqual((walker.place(), walker.variables(), walker.local_items()), (("fill", 0, 0), variables, [[0, 0], [0]]))
            walker.go(steps=begin + 4)
            self.assertEqual((walker.variables(), walker.local_items()), ([variables[0], 30, 30, 0], [[30, 0], [30]]))
            walker.go(steps=begin + 5)
            self.assertEqual((walker.opened(), walker.local_items()), (1, [[0, 0]]))
        self.assertEqual(walker.variables(), [0, 30, 30, 30, 0, 0])

    def test_stories_of_chains_with_several_places(self):
        leaf = Flow("leaf", (), 1, (), ((("tell", 0, (("leaf", 1), ("x", 2))), ("nonzero", 0, (("leaf", 3),)), ("back", 0)),))
        inner = Flow("inner", (), 1, (), ((("call", 0, "leaf", (), (("inner", 7),)), ("back", 0)),))
        made = middle((("call", 0, "inner", (), FAR), ("back", 0)), more=(leaf, inner))
        self.assertEqual(shown(made), (
            ((0, (*FAR, ("inner", 7), ("leaf", 1), ("x", 2))),), ("trap", "divide", (*FAR, ("inner", 7), ("leaf", 3))), 4, 0))

    def test_depth_of_calls_and_of_depth_deeds(self):
        deep = Flow("deep", (0,), 3, (), ((("tell", 0, (("deep", 0),)), ("with", 1, "add", 0, 1),
                                           ("call", 2, "deep", (1,), (("deep", 1),)), ("back", 2)),))
        made = middle((("call", 1, "deep", (0,), AT), ("back", 1)), more=(deep,))
        for depth in (1, 2, 3, 32, 1000):
            told, end, steps, rounds = shown(made, depth=depth)
            self.assertEqual([row[0] for row in told], list(range(depth - 1)))
            self.assertEqual((end, steps, rounds), (("trap", "depth", (AT + (("deep", 1),) * (depth - 1))), 3 * depth - 2, 0))
        asking = Flow("asking", (), 1, (), ((("depth", 2, FAR), ("tell", 0, AT), ("back", 0)),))
        made = middle((("call", 0, "asking", (), AT), ("back", 0)), more=(asking,))
        for depth, end in ((1, ("trap", "depth", AT)), (2, ("trap", "depth", AT + FAR)), (3, ("trap", "depth", AT + FAR)),
                           (4, ("end", 0)), (1000, ("end", 0))):
            self.assertEqual(shown(made, depth=depth)[1], end, depth)

    def test_a_main_that_is_called_goes_back_to_its_caller(self):
        made = middle((("read", 1, "g"), ("word", 2, 0), ("write", "g", 2), ("fork", 1, 1, 2),),
                      (("call", 3, "main", (), AT), ("tell", 3, FAR), ("word", 4, 8), ("back", 4)), (("word", 5, 6), ("back", 5)))
        self.assertEqual(shown(made), (((6, FAR),), ("end", 8), 14, 0))

    def test_a_call_that_reads_and_assigns_the_same_variable(self):
        made = middle((("word", 1, 5), ("call", 1, "same", (1,), AT), ("back", 1)),
                      more=(Flow("same", (0,), 2, (), ((("with", 0, "mul", 0, 3), ("back", 0)),)),))
        self.assertEqual(shown(made)[1], ("end", 15))

    def test_refused_depths(self):
        made = middle((("back", 0),))
        for depth in (0, 1001, -1, 2 ** 40):
            for refused in (Walker, run_middle):
                with self.assertRaises(BadDepth) as caught:
                    refused(made, depth=depth)
                self.assertEqual(caught.exception.depth, depth)
        for depth in (1, 32, 1000):
            self.assertEqual(run_middle(made, depth=depth).end, ("end", 0))


class LoopReturnsTest(unittest.TestCase):
    def test_which_steps_are_loop_returns(self):
        itself = middle((("jump", 0),))
        self.assertEqual(shown(itself, rounds=5), ((), None, 5, 5))
        earlier = middle((("word", 1, 1), ("jump", 1)), (("with", 1, "sub", 1, 1), ("jump", 2)), (("fork", 1, 3, 3),), (("jump", 1),))
        self.assertEqual(shown(earlier, rounds=0), ((), None, 5, 0))
        self.assertEqual(shown(earlier, rounds=3), ((), None, 17, 3))
        forward = middle((("jump", 2),), (("back", 0),), (("fork", 0, 3, 4),), (("jump", 4),), (("back", 0),))
        self.assertEqual(shown(forward, rounds=0), ((), ("end", 0), 3, 0))

    def test_limits(self):
        turning = middle((("with", 0, "add", 0, 1), ("tell", 0, AT), ("jump", 0)))
        for rounds, steps, told, done, turns in ((0, 100, 1, 2, 0), (1, 100, 2, 5, 1), (9, 0, 0, 0, 0), (0, 0, 0, 0, 0), (9, 1, 0, 1, 0),
                                                 (9, 2, 1, 2, 0), (9, 3, 1, 3, 1), (2, 8, 3, 8, 2), (2, 9, 3, 8, 2), (3, 9, 3, 9, 3)):
            found = run_middle(turning, rounds=rounds, steps=steps)
            self.assertEqual((len(found.told), found.end, found.steps, found.rounds), (told, None, done, turns))
        self.assertEqual((run_middle(turning).rounds, run_middle(turning).steps), (1000, 3002))
        self.assertEqual(run_middle(middle((("skip",), ("skip",), ("fork", 0, 1, 1)), (("jump", 0),)), rounds=10000, steps=9999).steps, 9999)
        self.assertEqual(run_middle(middle((("skip",),) * 99 + (("jump", 0),))).steps, 100000)


class DrivenTest(unittest.TestCase):
    turning = middle((("with", 0, "add", 0, 1), ("tell", 0, AT), ("call", 1, "f", (0,), FAR), ("jump", 0)),
                     more=(Flow("f", (0,), 2, (1,), ((("word", 1, 0), ("store", 0, 1, 0), ("write", "g", 0), ("back", 0)),)),))

    def test_limits_that_are_passed_already(self):
        walker = Walker(self.turning)
        walker.go(rounds=2)
        self.assertEqual((walker.run().steps, walker.run().rounds), (23, 2))
        for limits in ({"rounds": 2}, {"rounds": 1}, {"rounds": 0}, {"steps": 23}, {"steps": 5}, {"rounds": 0, "steps": 0}):
            walker.go(**limits)
            self.assertEqual((walker.run().steps, walker.run().rounds), (23, 2))
        walker.go(rounds=3, steps=25)
        self.assertEqual((walker.run().steps, walker.run().rounds), (25, 3))
        walker.go(rounds=1, steps=0)
        self.assertEqual((walker.run().steps, walker.run().rounds), (25, 3))
        # Between two loop returns the limit of the rounds lets it go on to the next one.
        walker.go(rounds=1)
        self.assertEqual((walker.run().steps, walker.run().rounds), (31, 3))

    def test_a_run_that_was_taken_stays(self):
        walker = Walker(self.turning)
        empty = walker.run()
        walker.go(rounds=0)
        first = walker.run()
        walker.go(rounds=1)
        self.assertIsInstance(first, Run)
        self.assertEqual((empty.told, empty.end, empty.steps, empty.rounds), ((), None, 0, 0))
        self.assertEqual((first.told, first.end, first.steps, first.rounds), (((1, AT),), None, 7, 0))
        self.assertEqual(walker.run().told, ((1, AT), (2, AT)))
        self.assertIs(type(first.told), tuple)

    def test_the_usual_limits_and_depth(self):
        walker = Walker(self.turning)
        walker.go()
        self.assertEqual((walker.run().steps, walker.run().rounds), (8007, 1000))
        walker = Walker(middle((("skip",),) * 99 + (("jump", 0),)))
        walker.go()
        self.assertEqual((walker.run().steps, walker.run().rounds), (100000, 1000))
        walker = Walker(middle((("skip",),) * 999 + (("jump", 0),)))
        walker.go()
        self.assertEqual((walker.run().steps, walker.run().rounds), (100000, 100))
        for many, end in ((31, ("end", 0)), (32, ("trap", "depth", AT))):
            walker = Walker(middle((("depth", many, AT), ("back", 0))))
            walker.go()
            self.assertEqual(walker.run().end, end)
            self.assertEqual(run_middle(middle((("depth", many, AT), ("back", 0)))).end, end)

    def test_go_returns_none_and_behind_the_end_nothing_happens(self):
        made = middle((("tell", 0, AT), ("back", 0)))
        walker = Walker(made)
        self.assertIsNone(walker.go())
        for _ in range(3):
            self.assertIsNone(walker.go(rounds=10000, steps=1000000))
            self.assertEqual((walker.run().shown(), walker.run().steps), ((((0, AT),), ("end", 0), 0), 2))
        self.assertEqual((walker.global_word("g"), walker.global_items("t")), (5, [0, 0, 0]))

    def test_looking_between_the_drives(self):
        walker = Walker(self.turning)
        seen = []
        for steps in range(9):
            walker.go(steps=steps)
            seen.append((walker.place(), walker.variables(), walker.local_items(), walker.opened(), walker.global_word("g")))
        self.assertEqual(seen, [
            (("main", 0, 0), [0] * 6, [[0, 0]], 1, 5), (("main", 0, 1), [1, 0, 0, 0, 0, 0], [[0, 0]], 1, 5),
            (("main", 0, 2), [1, 0, 0, 0, 0, 0], [[0, 0]], 1, 5), (("f", 0, 0), [1, 0], [[0]], 2, 5),
            (("f", 0, 1), [1, 0], [[0]], 2, 5), (("f", 0, 2), [1, 0], [[1]], 2, 5), (("f", 0, 3), [1, 0], [[1]], 2, 1),
            (("main", 0, 3), [1, 1, 0, 0, 0, 0], [[0, 0]], 1, 1), (("main", 0, 0), [1, 1, 0, 0, 0, 0], [[0, 0]], 1, 1),
        ])

    def test_places_in_later_blocks(self):
        walker = Walker(middle((("skip",), ("jump", 2)), (("back", 0),), (("skip",), ("fork", 0, 3, 4)), (("back", 0),),
                               (("jump", 1),)))
        seen = []
        while walker.run().end is None:
            seen.append(walker.place())
            walker.go(steps=walker.run().steps + 1)
        self.assertEqual(seen, [("main", 0, 0), ("main", 0, 1), ("main", 2, 0), ("main", 2, 1), ("main", 4, 0), ("main", 1, 0)])

    def test_changing_what_was_returned_changes_nothing(self):
        walker = Walker(self.turning)
        walker.go(steps=5)
        walker.variables().append(7)
        walker.variables()[0] = 99
        walker.local_items().clear()
        walker.local_items()[0][0] = 99
        walker.global_items("t")[1] = 99
        self.assertEqual((walker.variables(), walker.local_items(), walker.global_items("t")), ([1, 0], [[1]], [0, 0, 0]))
        whole = run_middle(self.turning, rounds=3)
        walker.go(rounds=3)
        self.assertEqual(walker.run().shown(), whole.shown())

    def test_a_middle_may_be_run_again(self):
        before = self.turning.parts()
        first = run_middle(self.turning, rounds=4).shown()
        self.assertEqual(run_middle(self.turning, rounds=4).shown(), first)
        self.assertEqual(self.turning.parts(), before)


class DrawnTest(unittest.TestCase):
    def test_against_the_small_walker(self):
        ends = {}
        for seed in range(1500):
            made = drawn_middle(seed)
            depth = random.Random(seed).choice((1, 2, 4, 32))
            small = SmallWalker(made, depth)
            small.go(30, 400)
            run = run_middle(made, depth=depth, rounds=30, steps=400)
            self.assertEqual((run.shown(), run.steps), (small.shown(), small.steps))
            ends[run.end and run.end[:2]] = True
        for end in (None, ("wild",), ("trap", "divide"), ("trap", "index"), ("trap", "depth"), ("end", 0)):
            self.assertIn(end, ends)

    def test_at_once_or_in_several_calls(self):
        for seed in range(300):
            chance = random.Random(seed)
            made = drawn_middle(seed)
            walker, small = Walker(made, depth=5), SmallWalker(made, 5)
            for _ in range(12):
                rounds, steps = chance.randint(0, 25), chance.randint(0, 250)
                walker.go(rounds=rounds, steps=steps)
                small.go(rounds, steps)
                self.assertEqual((walker.run().shown(), walker.run().steps), (small.shown(), small.steps))
                if small.end is None:
                    frame = small.frames[-1]
                    self.assertEqual(walker.place(), (frame["flow"].name, frame["block"], frame["position"]))
                    self.assertEqual((walker.variables(), walker.local_items()), (frame["words"], frame["arrays"]))
                    self.assertEqual(walker.opened(), len(small.frames))
                for name, word in small.words.items():
                    self.assertEqual(walker.global_word(name), word)
                for name, items in small.arrays.items():
                    self.assertEqual(walker.global_items(name), items)


class LoweredTest(unittest.TestCase):
    """The last rule of point 30."""

    def check(self, units, depth, rounds):
        source = run_source(units, depth=depth, rounds=rounds, steps=4000)
        run = run_middle(Middle.joined([lower(unit) for unit in units]), depth=depth, rounds=rounds, steps=20000)
        if source.steps < 4000:
            self.assertEqual(run.shown(), source.shown())
            return 1
        return 0

    def test_drawn_programs_in_any_parting(self):
        done = 0
        for seed in range(200):
            unit = Unit((), drawn_declarations(seed, 4, 80))
            for depth, rounds in ((1, 12), (5, 0), (32, 12)):
                done += self.check([unit], depth, rounds)
                done += self.check(parted(unit, drawn_cut(seed, len(unit.declarations))), depth, rounds)
        self.assertGreater(done, 1000)

    def test_driven_on_together(self):
        unit = read_unit("""word g; word f(word n) { while (n > 0) { n = n - 1; g = g + n; tell g; } return g; }
                            word main() { word i; while (i < 9) { i = i + 1; if (f(i) > 20) { tell -i; } } return i / (g - g); }""")
        source, walker = Source([unit]), Walker(lower(unit))
        for rounds in (0, 1, 1, 4, 2, 30, 1000):
            source.go(rounds=rounds)
            walker.go(rounds=rounds)
            self.assertEqual(walker.run().shown(), source.run().shown())
        self.assertEqual(walker.run().end, ("trap", "divide", (("main", 4),)))


if __name__ == "__main__":
    unittest.main()
