"""Point 58: the pieces of placed flows, with points 27, 42, 47, 49 and 55."""

import random
import unittest

from sameruns.homes.choosing import choose
from sameruns.homes.fitting import fits
from sameruns.homes.renaming import renamed
from sameruns.lang.units import Unit
from sameruns.lang.unitreading import read_unit
from sameruns.middle.flows import Flow, Middle
from sameruns.middle.lowering import lower
from sameruns.papers.improving import PASSES, improved
from sameruns.rows.emitting import Piece, emitted
from sameruns.source.source import run_source
from tests.drawing import drawn_declarations
from tests.flowdrawing import ARRAYS, FlowDrawer, LoopDrawer, drawn_middle
from tests.piecerun import PieceRun, check_piece
from tests.test_lowering import FILLINGS, full
from tests.walker import SmallWalker

AT = (("main", 0),)
REGISTERS = (8, 10, 9, 11, 18, 12, 19, 13, 20, 14, 21, 15, 22, 16, 23, 17, 24, 25, 26, 27)


def guarded(flow):
    """The flow with a check in front of each load and store."""
    lengths = {**dict(ARRAYS), **dict(enumerate(flow.arrays))}
    blocks = []
    for block in flow.blocks:
        deeds = []
        for deed in block:
            if deed[0] in ("load", "store"):
                row, index = deed[2:] if deed[0] == "load" else deed[1:3]
                deeds.append(("inside", index, lengths[row], ((flow.name, 77),)))
            deeds.append(deed)
        blocks.append(tuple(deeds))
    return Flow(flow.name, flow.params, flow.count, flow.arrays, tuple(blocks))


def other_homes(flow, free, chance):
    """Homes that fit, and need not be those that are chosen."""
    homes = list(choose(flow, free))
    for _ in range(4):
        if homes:
            variable, home = chance.randrange(flow.count), chance.choice((*REGISTERS, *range(32, 40), 351, *homes))
            other = (*homes[:variable], home, *homes[variable + 1:])
            if fits(flow, other, free):
                homes = list(other)
    return tuple(homes)


def main(*blocks, arrays=(), count=40, params=(), name="main"):
    return Flow(name, params, count, arrays, blocks)


class EmittedTest(unittest.TestCase):
    def check(self, middle, depth=32, rounds=20, steps=2000, seed=0):
        """Run the pieces of a middle of placed flows beside the middle; return the walker, or None if it goes wild."""
        walker = SmallWalker(middle, depth)
        walker.go(rounds, steps)
        if walker.end == ("wild",):
            return None
        pieces = PieceRun(self, middle, depth, seed)
        if walker.end is None and walker.steps == steps:
            pieces.go(rounds, steps)
            told = min(len(pieces.told), len(walker.told))
            self.assertEqual(pieces.told[:told], walker.told[:told])
        else:
            pieces.go(rounds, 10 ** 6)
            self.assertEqual(pieces.shown(), walker.shown())
            self.check_words(middle, pieces, walker)
        return walker

    def check_words(self, middle, pieces, walker):
        """The global words and arrays at the end."""
        for name, _ in middle.words:
            self.assertEqual(pieces.cells[pieces.addresses[name]], walker.words[name])
        for name, length in middle.arrays:
            self.assertEqual([pieces.cells[pieces.addresses[name] + 4 * k] for k in range(length)], walker.arrays[name])

    def one(self, *blocks, more=(), depth=32, rounds=20, steps=2000, **sizes):
        return self.check(Middle((("g", 3),), (("t", 4),), (main(*blocks, **sizes), *more)), depth, rounds, steps)

    def test_the_piece(self):
        piece = emitted(main((("back", 8),), params=(8, 33), name="f"))
        self.assertIsInstance(piece, Piece)
        self.assertEqual((piece.name, piece.params), ("f", 2))
        self.assertIs(type(piece.words), tuple)

    def test_returns(self):
        for place in (8, 10, 27, 32, 39):
            self.assertEqual(self.one((("word", place, 5), ("back", place))).end, ("end", 5))
            # From zeros in what is wanted at the beginning.
            self.assertEqual(self.one((("back", place),)).end, ("end", 0))

    def test_zeros(self):
        deeds = [("op", 8, "or", 8, v) for v in (10, 18, 17, 32, 39, 27)]
        self.assertEqual(self.one((*deeds, ("back", 8))).end, ("end", 0))
        fork = (("fork", 35, 1, 2),), (("word", 9, 1), ("jump", 3)), (("jump", 3),), (("op", 9, "add", 9, 11), ("back", 9))
        self.assertEqual(self.one(*fork).end, ("end", 0))

    def test_zeros_beside_parameters(self):
        for homes in ((10, 11), (11, 10), (33, 10), (8, 33), (27, 12), (12, 11)):
            others = [v for v in (8, 10, 11, 12, 13, 32, 33, 34) if v not in homes]
            made = main((*[("op", homes[0], "sub", homes[0], v) for v in (homes[1], *others)], ("back", homes[0])), params=homes, name="f")
            call = (("word", 8, 100), ("word", 9, 1), ("call", 8, "f", (8, 9), AT), ("back", 8))
            self.assertEqual(self.one(call, more=(made,)).end, ("end", 99))

    def test_local_arrays_are_cleared(self):
        deeds = []
        for number, length in enumerate((4, 1, 32)):
            for index in range(length):
                deeds += [("word", 9, index), ("load", 11, number, 9), ("op", 8, "or", 8, 11), ("word", 11, -1), ("store", number, 9, 11)]
        f = main((*deeds, ("back", 8)), arrays=(4, 1, 32), name="f")
        calls = [("call", 10, "f", (), AT), ("tell", 10, AT), ("call", 33, "f", (), AT), ("tell", 33, AT)]
        walker = self.one((*calls, ("back", 10)), more=(f,))
        self.assertEqual([word for word, _ in walker.told], [0, 0])

    def test_main_that_calls_itself(self):
        blocks = ((("read", 8, "g"), ("word", 9, 1), ("op", 8, "sub", 8, 9), ("write", "g", 8), ("tell", 32, AT), ("with", 32, "add", 32, 7),
                   ("fork", 8, 1, 2),),
                  (("call", 11, "main", (), (("main", 5),)), ("with", 11, "add", 11, 1), ("op", 11, "add", 11, 32), ("tell", 11, AT), ("back", 11)),
                  (("back", 32),))
        walker = self.one(*blocks, arrays=(2,), depth=3)
        self.assertEqual(walker.end, ("end", 23))
        for depth in (1, 2):
            self.assertEqual(self.one(*blocks, depth=depth).end[:2], ("trap", "depth"))

    def test_arguments(self):
        for many in range(7):
            for homes in ((10, 11, 12, 13, 14, 15), (15, 14, 13, 12, 11, 10), (8, 9, 18, 19, 20, 21), (32, 33, 34, 35, 36, 37), (11, 12, 13, 14, 15, 10),
                          (11, 10, 33, 12, 8, 13), (16, 17, 10, 11, 12, 13)):
                own = homes[:many]
                f = main((("word", 9, 1), *[("tell", v, AT) for v in own], *[("op", 9, "sub", 9, v) for v in own], ("back", 9)), params=own, name="f") \
                    if 9 not in own else main((*[("tell", v, AT) for v in own], ("back", 9)), params=own, name="f")
                for given in (homes, homes[::-1], (10,) * 6, (32,) * 6, (12, 11, 10, 15, 14, 13), (10, 11, 12, 13, 14, 15)):
                    begin = [("word", v, 11 * v) for v in sorted(set(given))]
                    walker = self.one((*begin, ("call", 38, "f", given[:many], AT), ("tell", 38, AT), ("back", 38)), more=(f,))
                    self.assertEqual([word for word, _ in walker.told[:-1]], [11 * v for v in given[:many]])

    def test_words_that_wait_behind_a_call(self):
        kept = (8, 9, *range(18, 28), 32, 33)
        f = main((*[("word", v, -v) for v in (*REGISTERS, 32, 33)], ("back", 27)), name="f")
        begin = [("word", v, v) for v in kept]
        for d in (10, 17, 35):
            deeds = (*begin, ("call", d, "f", (), AT), *[("tell", v, AT) for v in (*kept, d)], ("back", d))
            self.assertEqual([word for word, _ in self.one(deeds, more=(f,)).told], [*kept, -27])

    def test_loops(self):
        count = (("word", 8, 0), ("jump", 1)), (("with", 8, "add", 8, 1), ("with", 9, "lt", 8, 9), ("fork", 9, 2, 3)), (("jump", 1),), (("back", 8),)
        walker = self.one(*count)
        self.assertEqual((walker.end, walker.rounds), (("end", 9), 8))
        for rounds in range(10):
            self.one(*count, rounds=rounds)
        # A block that goes to itself, alone and behind an empty one.
        self.assertEqual(self.one((("jump", 0),), rounds=5).rounds, 5)
        self.assertEqual(self.one((("jump", 1),), (("jump", 1),), rounds=7).rounds, 7)
        self.assertEqual(self.one((("jump", 1),), (("jump", 0),), rounds=7).rounds, 7)
        self.assertEqual(self.one((("tell", 32, AT), ("jump", 1)), (("jump", 2),), (("with", 32, "add", 32, 1), ("jump", 0)), rounds=7).rounds, 7)

    def test_jumps_back_and_forth(self):
        # Blocks in an order that is not that of the run, and some that are not reached.
        blocks = ((("jump", 4),), (("tell", 8, AT), ("back", 8)), (("tell", 8, AT), ("jump", 6)), (("tell", 8, AT), ("jump", 2)),
                  (("word", 8, 7), ("jump", 3)), (("word", 8, 1), ("tell", 8, AT), ("jump", 1)), (("with", 8, "sub", 8, 1), ("jump", 1)))
        walker = self.one(*blocks)
        self.assertEqual((walker.end, walker.rounds), (("end", 6), 3))
        self.assertEqual([word for word, _ in walker.told], [7, 7, 6])

    def test_forks(self):
        # Both ways follow, one does, none does, both are the same.
        for yes, no in ((1, 2), (2, 1), (1, 3), (3, 1), (2, 3), (3, 2), (1, 1), (2, 2), (3, 3)):
            for place in (8, 33):
                for word in (0, 1, -1, -2147483648):
                    ends = [(("word", 9, 100 + k), ("back", 9)) for k in (1, 2, 3)]
                    walker = self.one((("word", place, word), ("fork", place, yes, no)), *ends)
                    self.assertEqual(walker.end, ("end", 100 + (yes if word else no)))

    def test_forks_with_a_block_between(self):
        # The block that follows the second fork is reached from the first one only.
        for yes, no in ((3, 4), (4, 3), (5, 3), (3, 3), (2, 4), (4, 2)):
            for place in (9, 33):
                for word in (0, 1, -1):
                    ends = [(("word", 9, 100 * k), ("back", 9)) for k in (2, 3, 4, 5)]
                    walker = self.one((("word", 8, 1), ("fork", 8, 1, 2)), (("word", place, word), ("fork", place, yes, no)), *ends)
                    self.assertEqual(walker.end, ("end", 100 * (yes if word else no)))

    def test_marks_of_blocks_that_are_not_reached(self):
        unreached = (("tell", 8, (("main", 9),)), ("nonzero", 8, AT), ("call", 8, "main", (), AT), ("jump", 1))
        piece = check_piece(self, main((("tell", 8, AT), ("back", 8)), unreached, (("inside", 8, 3, AT), ("jump", 0))))
        self.assertEqual([mark for _, _, mark in piece.lines if mark], [("tell", AT)])

    def test_traps(self):
        for deed, end in ((("nonzero", 8, AT), "divide"), (("inside", 9, 2, AT), "index"), (("depth", 33, AT), "depth")):
            walker = self.one((("word", 9, 2), deed, ("back", 9)))
            self.assertEqual(walker.end, ("trap", end, AT))
        f = main((("nonzero", 32, (("f", 3), ("q", 4))), ("back", 8)), name="f")
        walker = self.one((("call", 8, "f", (), (("main", 1), ("k", 2))), ("back", 8)), more=(f,))
        self.assertEqual(walker.end, ("trap", "divide", (("main", 1), ("k", 2), ("f", 3), ("q", 4))))

    def test_globals(self):
        deeds = (("read", 8, "g"), ("with", 8, "mul", 8, -5), ("write", "g", 8), ("word", 33, 3), ("store", "t", 33, 8), ("load", 35, "t", 33),
                 ("tell", 35, AT), ("read", 36, "g"), ("tell", 36, AT), ("back", 36))
        self.assertEqual([word for word, _ in self.one(deeds).told], [-15, -15])

    def test_long_functions(self):
        chance = random.Random(2)
        slots = list(range(32, 72))
        moves = [("moves", tuple(slots[:20]), tuple(chance.sample(slots[:20], 20))) for _ in range(550)]
        blocks = ((("word", 8, 3), ("jump", 1)), (("fork", 8, 2, 4),), (*moves, ("with", 8, "sub", 8, 1), ("jump", 3)), (*moves, ("jump", 1)),
                  (("tell", 33, AT), ("back", 8)))
        walker = self.one(*blocks, count=72, steps=10000)
        self.assertEqual((walker.end, walker.rounds), (("end", 0), 3))
        # Each branch of a chain of forks passes the many deeds behind it.
        many = [(("tell", 8, AT), ("fork", 33, k + 1, 319)) for k in range(318)] + [(*moves[:200], ("jump", 319)), (("back", 8),)]
        self.assertEqual(self.one(*many, count=72).end, ("end", 0))

    def test_drawn_middles(self):
        ends = {}
        for seed in range(330):
            chance = random.Random(seed)
            middle = drawn_middle(seed, LoopDrawer if seed % 2 else FlowDrawer, deeds=5)
            free = seed % 21
            flows = [guarded(flow) if seed % 3 else flow for flow in middle.flows]
            flows = [renamed(flow, other_homes(flow, free, chance)) for flow in flows]
            walker = self.check(Middle(middle.words, middle.arrays, flows), chance.choice((1, 2, 5, 32)), 12, 600, seed)
            if walker is not None:
                ends[walker.end and walker.end[:-1]] = ends.get(walker.end and walker.end[:-1], 0) + 1
        self.assertGreater(min([ends.get(end, 0) for end in (None, ("end",), ("trap", "divide"), ("trap", "index"), ("trap", "depth"))]), 9, ends)

    def test_lowered_and_improved_programs(self):
        done = 0
        for seed in range(240):
            chance = random.Random(seed)
            unit = Unit((), drawn_declarations(seed, 4, 80))
            passes = [chance.choice(PASSES) for _ in range(chance.choice((0, 1, 3, 6)))]
            middle = improved(lower(unit), passes)
            free = seed % 21
            homes = choose if seed % 4 else lambda flow, free: other_homes(flow, free, chance)
            middle = Middle(middle.words, middle.arrays, [renamed(flow, homes(flow, free)) for flow in middle.flows])
            depth = chance.choice((1, 3, 32))
            source = run_source([unit], depth=depth, rounds=10, steps=2000)
            if source.steps < 2000:
                pieces = PieceRun(self, middle, depth, seed)
                pieces.go(10, 10 ** 6)
                self.assertEqual(pieces.shown(), source.shown())
                self.assertLessEqual(pieces.falls, source.steps)
                done += 1
        self.assertGreater(done, 200)

    def test_full_functions(self):
        for filling in FILLINGS[::3]:
            unit = full(filling)
            source = run_source([unit], rounds=10, steps=3000)
            if source.steps == 3000:
                continue
            for free in (0, 3, 20):
                middle = lower(unit)
                middle = Middle(middle.words, middle.arrays, [renamed(flow, choose(flow, free)) for flow in middle.flows])
                pieces = PieceRun(self, middle, 32)
                pieces.go(10, 10 ** 6)
                self.assertEqual(pieces.shown(), source.shown())

    def test_a_program(self):
        unit = read_unit("""word g = 5; word t[3];
            word f(word n, word m) { word r[2]; r[1] = n; if (n <= 0) { return r[0] + m; } tell n; return f(n - 1, m * 2) + r[1]; }
            word main() { word i; while (i < 3) { t[i] = f(i, g); i = i + 1; } return t[2] / (t[0] - 5); }""")
        for free in range(21):
            for passes in ((), PASSES):
                middle = improved(lower(unit), passes)
                middle = Middle(middle.words, middle.arrays, [renamed(flow, choose(flow, free)) for flow in middle.flows])
                for depth in (1, 2, 3, 4, 1000):
                    pieces = PieceRun(self, middle, depth)
                    pieces.go(1000, 10 ** 6)
                    self.assertEqual(pieces.shown(), run_source([unit], depth=depth).shown())


if __name__ == "__main__":
    unittest.main()
