"""Point 34: padded and swept flows."""

import random
import unittest

from sameruns.basics.errors import BadSpot
from sameruns.middle.flows import Flow
from sameruns.papers.skips import padded, swept
from tests.flowdrawing import drawn_flow
from tests.secondjudge import padded_blocks

SKIP = ("skip",)
ONE = Flow("f", (1,), 3, (2,), ((("word", 0, 1), SKIP, ("jump", 1)), (("back", 0),)))


class PaddedTest(unittest.TestCase):
    def test_no_spots(self):
        self.assertEqual(padded(ONE, ()).parts(), ONE.parts())

    def test_each_spot(self):
        word, jump, back = ("word", 0, 1), ("jump", 1), ("back", 0)
        for spots, blocks in (
            (((0, 0),), ((SKIP, word, SKIP, jump), (back,))), (((0, 1),), ((word, SKIP, SKIP, jump), (back,))),
            (((0, 2),), ((word, SKIP, SKIP, jump), (back,))), (((1, 0),), ((word, SKIP, jump), (SKIP, back))),
            (((0, 0), (0, 0), (0, 0)), ((SKIP, SKIP, SKIP, word, SKIP, jump), (back,))),
            (((0, 0), (0, 2), (1, 0), (1, 0)), ((SKIP, word, SKIP, SKIP, jump), (SKIP, SKIP, back))),
        ):
            found = padded(ONE, spots)
            self.assertIsInstance(found, Flow)
            self.assertEqual(found.parts(), ("f", (1,), 3, (2,), blocks))

    def test_bad_spots(self):
        for spots, index in (
            (((0, 3),), 0), (((0, -1),), 0), (((-1, 0),), 0), (((2, 0),), 0), (((1, 1),), 0), (((2 ** 40, -(2 ** 40)),), 0),
            (((0, 0), (0, 3)), 1), (((0, 1), (0, 0)), 1), (((1, 0), (0, 2)), 1), (((0, 0), (0, 0), (1, 0), (0, 2), (9, 9)), 3),
            (((0, 1), (0, 0), (7, 7)), 1), (((0, 0), (5, 0), (0, 1)), 1), (((0, 0), (0, 2), (0, 1), (0, 2)), 2),
        ):
            with self.assertRaises(BadSpot) as caught:
                padded(ONE, spots)
            self.assertEqual(caught.exception.index, index, spots)

    def test_the_flow_stays(self):
        before = ONE.parts()
        padded(ONE, ((0, 0), (1, 0)))
        swept(ONE)
        self.assertEqual(ONE.parts(), before)


class SweptTest(unittest.TestCase):
    def test_all_skips_go(self):
        self.assertEqual(swept(ONE).parts(), ("f", (1,), 3, (2,), ((("word", 0, 1), ("jump", 1)), (("back", 0),))))
        full = Flow("f", (), 1, (), ((SKIP, SKIP, ("jump", 1)), (SKIP, ("moves", (), ()), SKIP, ("back", 0))))
        self.assertEqual(swept(full).blocks, ((("jump", 1),), (("moves", (), ()), ("back", 0))))
        self.assertEqual(swept(swept(full)).parts(), swept(full).parts())

    def test_sweeping_what_was_padded(self):
        for seed in range(200):
            flow = drawn_flow(seed)
            chance = random.Random(seed)
            places = [(number, position) for number, block in enumerate(flow.blocks) for position in range(len(block))]
            spots = tuple(sorted([chance.choice(places) for _ in range(chance.randint(0, 6))]))
            found = padded(flow, spots)
            self.assertEqual([list(block) for block in found.blocks], padded_blocks(flow, spots))
            self.assertEqual(swept(found).parts(), swept(flow).parts())
            self.assertFalse([deed for block in swept(found).blocks for deed in block if deed == SKIP])


if __name__ == "__main__":
    unittest.main()
