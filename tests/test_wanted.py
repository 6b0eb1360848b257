"""Point 29: wanted variables."""

import unittest

from sameruns.middle.flows import Flow
from sameruns.middle.wanted import wanted, wanted_behind
from tests.flowdrawing import drawn_flow
from tests.secondjudge import is_wanted, is_wanted_behind

AT = (("f", 0),)


def flow(*blocks, count=6, params=(), arrays=(2,)):
    return Flow("f", params, count, arrays, blocks)


class WantedTest(unittest.TestCase):
    def test_one_block(self):
        one = flow((("word", 1, 5), ("op", 2, "add", 0, 1), ("tell", 2, AT), ("back", 3)))
        self.assertEqual(wanted(one), ((0, 3),))
        self.assertEqual(wanted_behind(one, 0), ((0, 1, 3), (2, 3), (3,), ()))

    def test_kinds_of_values(self):
        one = flow((("word", 1, 5), ("jump", 1)), (("back", 1),))
        for found in (wanted(one), wanted_behind(one, 0)):
            self.assertIs(type(found), tuple)
            self.assertTrue(all([type(row) is tuple for row in found]))
        self.assertEqual(wanted(one), wanted(one))

    def test_a_deed_that_reads_and_assigns_one_variable(self):
        for deed in (("op", 1, "add", 1, 1), ("with", 1, "add", 1, 1), ("copy", 1, 1), ("load", 1, 0, 1),
                     ("call", 1, "g", (1,), AT), ("moves", (1,), (1,))):
            self.assertEqual(wanted(flow((deed, ("back", 1)))), ((1,),), deed)
            self.assertEqual(wanted_behind(flow((deed, ("back", 1))), 0), ((1,), ()), deed)
            self.assertEqual(wanted(flow((deed, ("back", 2)))), ((1, 2),), deed)

    def test_moves(self):
        swap = flow((("moves", (1, 2), (2, 1)), ("back", 1)))
        self.assertEqual((wanted(swap), wanted_behind(swap, 0)), (((1, 2),), ((1,), ())))
        turn = flow((("moves", (1, 2, 3), (2, 3, 4)), ("op", 5, "add", 1, 3), ("back", 5)))
        self.assertEqual((wanted(turn), wanted_behind(turn, 0)), (((2, 3, 4),), ((1, 3), (5,), ())))
        self.assertEqual(wanted(flow((("moves", (), ()), ("back", 0)))), ((0,),))

    def test_each_kind_of_deed(self):
        for deed, before in (
            (("word", 1, 0), ()), (("read", 1, "g"), ()), (("copy", 1, 2), (2,)), (("op", 1, "sub", 3, 2), (2, 3)),
            (("with", 1, "sub", 2, 5), (2,)), (("load", 1, "t", 2), (2,)), (("skip",), (1,)), (("write", "g", 2), (1, 2)),
            (("store", "t", 2, 3), (1, 2, 3)), (("store", 0, 2, 2), (1, 2)), (("nonzero", 2, AT), (1, 2)),
            (("inside", 2, 3, AT), (1, 2)), (("depth", 3, AT), (1,)), (("call", 1, "g", (3, 2, 3), AT), (2, 3)),
            (("call", 4, "g", (), AT), (1,)), (("tell", 2, AT), (1, 2)), (("moves", (1,), (4,)), (4,)),
        ):
            self.assertEqual(wanted(flow((deed, ("back", 1)))), (before,), deed)

    def test_a_fork_wants_what_both_targets_want(self):
        two = flow((("fork", 0, 1, 2),), (("back", 1),), (("word", 3, 1), ("tell", 2, AT), ("back", 3)))
        self.assertEqual(wanted(two), ((0, 1, 2), (1,), (2,)))
        self.assertEqual(wanted_behind(two, 0), ((1, 2),))
        self.assertEqual(wanted_behind(two, 2), ((2, 3), (3,), ()))
        same = flow((("fork", 0, 1, 1),), (("back", 1),))
        self.assertEqual((wanted(same), wanted_behind(same, 0)), (((0, 1), (1,)), ((1,),)))

    def test_loops(self):
        turning = flow((("word", 0, 9), ("jump", 1)), (("fork", 0, 2, 3),),
                       (("op", 0, "sub", 0, 1), ("copy", 4, 5), ("jump", 1)), (("back", 2),))
        self.assertEqual(wanted(turning), ((1, 2, 5), (0, 1, 2, 5), (0, 1, 2, 5), (2,)))
        self.assertEqual(wanted_behind(turning, 2), ((0, 1, 2, 5), (0, 1, 2, 5), (0, 1, 2, 5)))
        endless = flow((("op", 1, "add", 1, 2), ("jump", 0)))
        self.assertEqual((wanted(endless), wanted_behind(endless, 0)), (((1, 2),), ((1, 2), (1, 2))))

    def test_nothing_is_wanted_behind_the_end_of_a_way(self):
        self.assertEqual(wanted_behind(flow((("back", 1),)), 0), ((),))
        self.assertEqual(wanted(flow((("skip",), ("jump", 0)), count=0)), ((),))
        self.assertEqual(wanted_behind(flow((("skip",), ("jump", 0)), count=0), 0), ((), ()))

    def test_blocks_that_are_not_reached(self):
        three = flow((("back", 0),), (("tell", 1, AT), ("jump", 2)), (("word", 1, 2), ("jump", 0)), (("jump", 1),))
        self.assertEqual(wanted(three), ((0,), (0, 1), (0,), (0, 1)))
        self.assertEqual(wanted_behind(three, 1), ((0,), (0,)))
        self.assertEqual(wanted_behind(three, 3), ((0, 1),))

    def test_a_long_way_backwards(self):
        many = 300
        blocks = [(("jump", many - 1),)]
        blocks += [(("skip",), ("jump", number - 1)) if number > 1 else (("back", 399),) for number in range(1, many)]
        self.assertEqual(wanted(flow(*blocks, count=400)), ((399,),) * many)


class DrawnTest(unittest.TestCase):
    def test_against_a_search_along_the_paths(self):
        for seed in range(300):
            drawn = drawn_flow(seed)
            before = drawn.parts()
            variables = range(drawn.count)
            self.assertEqual(wanted(drawn), tuple([
                tuple([v for v in variables if is_wanted(drawn, number, 0, v)]) for number in range(len(drawn.blocks))]))
            for number, block in enumerate(drawn.blocks):
                self.assertEqual(wanted_behind(drawn, number), tuple([
                    tuple([v for v in variables if is_wanted_behind(drawn, number, position, v)])
                    for position in range(len(block))]))
            self.assertEqual(drawn.parts(), before)


if __name__ == "__main__":
    unittest.main()
