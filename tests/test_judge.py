"""Points 35 to 40: papers and the judge, rule by rule."""

import unittest

from sameruns.middle.flows import Flow
from sameruns.papers.judge import Paper, judge
from tests.secondjudge import accepts

AT = (("f", 0),)
FAR = (("f", 1),)
EVERY = (0, 1, 2, 3, 4, 5)


class Judged(unittest.TestCase):
    """Asks the judge, and a second reading of it, too."""

    def ask(self, before, after, paper):
        parts = (before.parts(), after.parts(), paper.parts())
        answer = judge(before, after, paper)
        self.assertIn(answer, (True, False))
        self.assertIs(type(answer), bool)
        self.assertIs(judge(before, after, paper), answer)
        self.assertEqual((before.parts(), after.parts(), paper.parts()), parts)
        self.assertIs(accepts(before, after, paper), answer)
        return answer

    def yes(self, before, after, *entries, spots=()):
        self.assertTrue(self.ask(before, after, Paper(spots, entries)), (before.blocks, after.blocks, entries))

    def no(self, before, after, *entries, spots=()):
        self.assertFalse(self.ask(before, after, Paper(spots, entries)), (before.blocks, after.blocks, entries))

    def same(self, xs, ys, answer, variable=5, agreeing=EVERY, begin=()):
        """Ask about one block in which a variable is returned behind x and y, and behind the same beginning."""
        before = flow((*begin, *xs, ("back", variable)))
        after = flow((*begin, *ys, ("back", variable)))
        self.assertIs(self.ask(before, after, Paper((), ((agreeing, ()),))), answer, (begin, xs, ys))


def flow(*blocks, count=6, params=(0,), arrays=(4, 4), name="f"):
    return Flow(name, params, count, arrays, blocks)


class PaperTest(Judged):
    def test_fields_and_parts(self):
        entries = (((0, 1), ()), None, ((), (("word", 1, 5),)))
        paper = Paper(((0, 1), (0, 1)), entries)
        self.assertEqual((paper.spots, paper.entries), (((0, 1), (0, 1)), entries))
        self.assertEqual(paper.parts(), (((0, 1), (0, 1)), entries))
        self.assertIs(type(paper.parts()), tuple)

    def test_example_of_the_interface(self):
        first = Flow("f", (0,), 3, (), ((("word", 1, 2), ("op", 2, "mul", 0, 1), ("back", 2)),))
        good = Flow("f", (0,), 3, (), ((("word", 1, 2), ("with", 2, "mul", 0, 2), ("back", 2)),))
        bad = Flow("f", (0,), 3, (), ((("word", 1, 2), ("with", 2, "mul", 0, 3), ("back", 2)),))
        self.yes(first, good, ((0, 1, 2), ()))
        self.no(first, bad, ((0, 1, 2), ()))


class FrameTest(Judged):
    """Rules 1 to 3 of point 36."""

    block = (("skip",), ("back", 0))

    def test_rule_1(self):
        entry = ((0,), ())
        self.yes(flow(self.block), flow(self.block), entry)
        self.yes(flow(self.block), flow(self.block, count=7), entry)
        self.yes(flow(self.block, count=1), flow(self.block, count=400), entry)
        for other in (flow(self.block, count=5), flow(self.block, name="g"), flow(self.block, params=()),
                      flow(self.block, params=(0, 1)), flow(self.block, params=(1,)), flow(self.block, arrays=(4,)),
                      flow(self.block, arrays=(4, 3)), flow(self.block, arrays=())):
            self.no(flow(self.block), other, entry)
        self.no(flow(self.block, params=(0, 1)), flow(self.block, params=(1, 0)), entry)

    def test_rule_2_spots(self):
        plain = flow((("back", 0),), (("word", 1, 2), ("back", 1)))
        entries = (((0,), ()), ((1,), ()))
        for spots, blocks in (
            (((0, 0),), ((("skip",), ("back", 0)), (("word", 1, 2), ("back", 1)))),
            (((1, 1),), ((("back", 0),), (("word", 1, 2), ("word", 3, 4), ("back", 1)))),
            (((0, 0), (1, 0), (1, 0)), ((("skip",), ("back", 0)), (("skip",), ("word", 2, 3), ("word", 1, 2), ("back", 1)))),
        ):
            after = flow(*blocks)
            self.yes(plain, after, *entries, spots=spots)
            self.no(plain, after, *entries)
            self.no(plain, after, *entries, spots=(*spots, spots[-1]))
            self.no(plain, plain, *entries, spots=spots)
        after = flow((("skip",), ("back", 0)), (("skip",), ("word", 1, 2), ("back", 1)))
        self.yes(plain, after, *entries, spots=((0, 0), (1, 0)))
        self.no(plain, after, *entries, spots=((1, 0), (0, 0)))
        # The right number of deeds, by spots that are none.
        one = flow((("skip",), ("back", 0)), (("word", 1, 2), ("back", 1)))
        for spot in ((0, 1), (0, -1), (-1, 0), (-2, 0), (2, 0), (2 ** 40, 0), (0, -(2 ** 40))):
            self.no(plain, one, *entries, spots=(spot,))
        self.no(plain, one, *entries, spots=((0, 0), (5, 5)))

    def test_rule_2_blocks(self):
        one, two = flow(self.block), flow(self.block, (("back", 0),))
        self.no(one, two, ((0,), ()))
        self.no(one, two, ((0,), ()), None)
        self.no(two, one, ((0,), ()))
        self.no(two, one, ((0,), ()), None)
        self.yes(two, two, ((0,), ()), None)
        self.no(two, flow(self.block, self.block), ((0,), ()), None)
        self.no(two, flow((("back", 0),), (("back", 0),)), ((0,), ()), None)

    def test_rule_3_entries(self):
        two = flow(self.block, (("back", 1),))
        for entries, answer in (
            ((((0,), ()), ((1,), ())), True), ((((0,), ()), None), True), (((EVERY, ()), (EVERY, ())), True),
            ((((0,), ()), ((1,), (("word", 5, 5), ("depth", 3)))), True), ((((0,), ()), ((), ())), False),
            ((), False), ((((0,), ()),), False), ((((0,), ()), None, None), False), ((None, None), False), ((None, ((1,), ())), False),
            ((((0,), (("depth", 1),)), None), False), ((((0,), (("word", 0, 0),)), None), False),
            ((((0, 0), ()), None), False), ((((1, 0), ()), None), False), ((((0, 1, 1), ()), None), False),
            ((((0, 6), ()), None), False), ((((-1, 0), ()), None), False), ((((0, 2 ** 40), ()), None), False),
            ((((0,), ()), ((1, 1), ())), False), ((((0,), ()), ((1, 6), ())), False), ((((0,), ()), ((-5, 1), ())), False),
            ((((0,), ()), ((1,), (("word", 6, 0),))), False), ((((0,), ()), ((1,), (("word", -1, 0),))), False),
            ((((0,), ()), ((1,), (("copy", 1, 6),))), False), ((((0,), ()), ((1,), (("op", 1, "add", 2, 7),))), False),
            ((((0,), ()), ((1,), (("op", 1, "add", -7, 2),))), False), ((((0,), ()), ((1,), (("with", 1, "add", 9, 2),))), False),
            ((((0,), ()), ((1,), (("load", 1, 0, 6),))), False), ((((0,), ()), ((1,), (("inside", 6, 3),))), False),
            ((((0,), ()), ((1,), (("nonzero", 2 ** 40),))), False), ((((0,), ()), ((1,), (("read", 6, "g"),))), False),
            ((((0,), ()), ((1,), (("inside", 5, 3), ("copy", 4, 4)))), True),
        ):
            self.assertIs(self.ask(two, two, Paper((), entries)), answer, entries)

    def test_agreeing_variables_are_those_of_the_before_flow_and_facts_those_of_the_after_flow(self):
        before, after = flow((("back", 0),), (("back", 0),), count=3), flow((("back", 0),), (("back", 0),), count=5)
        self.yes(before, after, ((0, 2), ()), ((0,), (("copy", 3, 4),)))
        self.no(before, after, ((0, 3), ()), ((0,), ()))
        self.no(before, after, ((0, 2), ()), ((0, 4), ()))
        self.no(before, after, ((0, 2), ()), ((0,), (("copy", 3, 5),)))

    def test_flows_without_variables(self):
        turning = flow((("moves", (), ()), ("depth", 1, AT), ("jump", 0)), count=0, params=())
        other = flow((("skip",), ("depth", 1, AT), ("jump", 0)), count=0, params=())
        self.yes(turning, other, ((), ()))
        self.yes(other, turning, ((), ()))
        self.no(turning, other, ((0,), ()))
        self.no(turning, flow((("skip",), ("depth", 2, AT), ("jump", 0)), count=0, params=()), ((), ()))


class PlainTest(Judged):
    """Case 1 of point 37, and point 38."""

    def test_the_same_deed(self):
        for deed in (("word", 5, 3), ("copy", 5, 1), ("op", 5, "sub", 1, 2), ("with", 5, "sub", 1, 2), ("read", 5, "g"),
                     ("load", 5, "t", 1), ("load", 5, 0, 1), ("op", 5, "sub", 5, 1)):
            self.same((deed,), (deed,), True)
        self.same((("skip",),), (("skip",),), True)
        # Agreeing variables that are read are needed; the one that is assigned needs not agree before.
        self.same((("op", 5, "sub", 1, 2),), (("op", 5, "sub", 1, 2),), True, agreeing=(1, 2))
        self.same((("op", 5, "sub", 1, 2),), (("op", 5, "sub", 1, 2),), False, agreeing=(0, 1, 5))
        self.same((("op", 5, "sub", 5, 2),), (("op", 5, "sub", 5, 2),), False, agreeing=(1, 2))

    def test_one_thing_is_another_one(self):
        for x, y in (
            (("word", 5, 3), ("word", 5, 4)), (("copy", 5, 1), ("copy", 5, 2)), (("op", 5, "sub", 1, 2), ("op", 5, "add", 1, 2)),
            (("op", 5, "sub", 1, 2), ("op", 5, "sub", 2, 1)), (("with", 5, "sub", 1, 2), ("with", 5, "sub", 1, 3)),
            (("with", 5, "sub", 1, 2), ("with", 5, "add", 1, 2)), (("with", 5, "sub", 1, 2), ("with", 5, "sub", 2, 2)),
            (("word", 5, 3), ("word", 4, 3)), (("word", 5, 3), ("skip",)), (("skip",), ("word", 5, 3)), (("word", 5, 3), ("copy", 5, 5)),
        ):
            self.same((x,), (y,), False)
            self.same((x,), (y,), True, variable=3)

    def test_a_variable_that_one_of_them_assigns_no_longer_agrees(self):
        self.same((("word", 4, 3),), (("word", 5, 3),), False)
        self.same((("word", 4, 3),), (("word", 5, 3),), False, variable=4)
        self.same((("word", 4, 3),), (("word", 5, 3),), True, variable=3)

    def test_loads_and_reads_in_the_after_flow(self):
        good = ("load", 5, "t", 1)
        for x, answer in ((good, True), (("load", 4, "t", 1), True), (("load", 4, "u", 1), False), (("load", 4, 0, 1), False),
                          (("load", 4, "t", 2), False), (("skip",), False), (("word", 5, 0), False), (("read", 5, "t"), False)):
            self.same((x,), (good,), answer, variable=3)
        self.same((good,), (("load", 5, "t", 1),), False, variable=3, agreeing=(3, 5))
        self.same((good,), (("load", 5, "t", 2),), True, begin=(("copy", 2, 1),))
        self.same((good,), (("load", 4, "t", 2),), True, variable=3, begin=(("copy", 1, 2),))
        for x, answer in ((("read", 5, "g"), True), (("read", 4, "g"), True), (("read", 4, "h"), False), (("skip",), False),
                          (("word", 5, 0), False), (("load", 5, "g", 1), False)):
            self.same((x,), (("read", 5, "g"),), answer, variable=3)
        # A load or a read of the before flow alone does no harm.
        for x in (("load", 5, 1, 1), ("read", 5, "g")):
            for y in (("skip",), ("word", 5, 2), ("moves", (5,), (2,))):
                self.same((x,), (y,), True, variable=3, agreeing=(3,))

    def test_moves(self):
        both = ("moves", (1, 2, 5), (2, 1, 0))
        self.same((both,), (both,), True)
        for variable in (1, 2, 5):
            self.same((both,), (("moves", (5, 2, 1), (0, 1, 2)),), True, variable=variable)
            self.same((both,), (("moves", (variable,), (both[2][both[1].index(variable)],)),), True, variable=variable)
            self.same((both,), (("moves", (variable,), (4,)),), False, variable=variable)
            self.same((both,), (("moves", (), ()),), False, variable=variable)
            self.same((both,), (("skip",),), False, variable=variable)
            self.same((both,), (both,), False, variable=variable, agreeing=(3, 4, 5))
            self.same((("skip",),), (both,), False, variable=variable)
            self.same((both,), (("skip",),), True, variable=3)
        # A moves and a copy share nothing.
        self.same((("moves", (5,), (1,)),), (("copy", 5, 1),), False)
        self.same((("copy", 5, 1),), (("moves", (5,), (1,)),), False)
        self.same((("moves", (5,), (1,)),), (("moves", (5,), (2,)),), True, begin=(("copy", 2, 1),))
        self.same((("moves", (5, 1), (1, 3)),), (("moves", (1, 5), (3, 2)),), True, begin=(("copy", 2, 1),))

    def test_like_variables(self):
        for begin in ((("copy", 1, 2),), (("copy", 2, 1),)):
            for x, y in ((("copy", 5, 1), ("copy", 5, 2)), (("op", 5, "sub", 1, 3), ("op", 5, "sub", 2, 3)),
                         (("op", 5, "sub", 3, 1), ("op", 5, "sub", 3, 2)), (("with", 5, "sub", 1, 3), ("with", 5, "sub", 2, 3)),
                         (("op", 5, "mul", 1, 1), ("op", 5, "mul", 1, 2))):
                self.same((x,), (y,), True, begin=begin)
                self.same((x,), (y,), False)
                self.same((x,), (y,), False, begin=(*begin, ("word", 2, 4)))
        # The copy is taken from the after flow, and the variable of the before flow must agree.
        before = flow((("copy", 2, 1), ("word", 1, 3), ("skip",), ("copy", 5, 2), ("back", 5)))
        after = flow((("copy", 2, 1), ("skip",), ("word", 3, 1), ("copy", 5, 1), ("back", 5)))
        self.yes(before, after, (EVERY, ()))
        self.no(before, after, ((0, 2, 3, 4, 5), ()))
        # Not by a third variable, and not by two that are known.
        self.same((("copy", 5, 1),), (("copy", 5, 3),), False, begin=(("copy", 2, 1), ("copy", 3, 2)))
        self.same((("op", 5, "add", 1, 4),), (("op", 5, "add", 2, 4),), False, begin=(("word", 1, 7), ("word", 2, 7)))

    def test_what_is_known_becomes_a_word(self):
        known = (("word", 1, 7), ("word", 2, -2))
        for x, n in ((("copy", 5, 1), 7), (("op", 5, "quo", 1, 2), -3), (("op", 5, "mul", 1, 1), 49), (("with", 5, "sub", 2, 3), -5)):
            self.same((x,), (("word", 5, n),), True, begin=known)
            self.same((x,), (("word", 5, n + 1),), False, begin=known)
            self.same((x,), (("word", 4, n),), False, begin=known)
            self.same((x,), (("word", 5, n),), False)
            self.same((x,), (("word", 5, n),), False, begin=known[1:] if 1 in x[2:4] else known[:1])
        self.same((("read", 5, "g"),), (("word", 5, 7),), False, begin=(("word", 1, 7), ("write", "g", 1)))
        self.same((("op", 5, "add", 1, 5),), (("word", 5, 10),), True, begin=(("word", 1, 7), ("word", 5, 3)))
        # The word is known in the after flow, but the variable does not agree.
        before = flow((("word", 1, 8), ("copy", 5, 1), ("back", 5)))
        after = flow((("word", 1, 7), ("word", 5, 7), ("back", 5)))
        self.no(before, after, (EVERY, ()))

    def test_an_op_with_a_known_operand_becomes_a_with(self):
        known = (("word", 2, 9),)
        self.same((("op", 5, "sub", 1, 2),), (("with", 5, "sub", 1, 9),), True, begin=known)
        for y in (("with", 5, "sub", 1, 8), ("with", 5, "add", 1, 9), ("with", 5, "sub", 3, 9), ("with", 5, "sub", 2, 9), ("with", 4, "sub", 1, 9)):
            self.same((("op", 5, "sub", 1, 2),), (y,), False, begin=known)
        self.same((("op", 5, "sub", 1, 2),), (("with", 5, "sub", 1, 9),), False)
        self.same((("op", 5, "add", 2, 1),), (("with", 5, "add", 1, 9),), False, begin=known)
        self.same((("op", 5, "sub", 1, 2),), (("with", 5, "sub", 3, 9),), True, begin=(*known, ("copy", 3, 1)))
        self.same((("op", 5, "sub", 1, 2),), (("with", 5, "sub", 1, 9),), False, begin=known, agreeing=(0, 2, 3, 4, 5))
        self.same((("with", 5, "sub", 1, 9),), (("op", 5, "sub", 1, 2),), False, begin=known)
        # The number of a with is no variable, and an array may be called like an operation.
        self.same((("with", 5, "sub", 1, 2),), (("with", 5, "sub", 1, 9),), False, begin=known)
        self.same((("load", 5, "sub", 1),), (("with", 5, "sub", 1, 9),), False, begin=known)
        self.same((("read", 5, "sub"),), (("with", 5, "sub", 1, 9),), False, begin=known)
        self.same((("read", 5, "sub"),), (("copy", 5, 1),), False, begin=known)
        before = flow((("word", 2, 8), ("op", 5, "sub", 1, 2), ("back", 5)))
        after = flow((("word", 2, 9), ("with", 5, "sub", 1, 9), ("back", 5)))
        self.no(before, after, (EVERY, ()))

    def test_what_was_done_becomes_a_copy(self):
        for made in (("word", 3, 7), ("copy", 3, 1), ("op", 3, "sub", 1, 2), ("with", 3, "sub", 1, 2), ("read", 3, "g"),
                     ("load", 3, "t", 1), ("load", 3, 1, 1)):
            x = (made[0], 5, *made[2:])
            self.same((x,), (("copy", 5, 3),), True, begin=(made,))
            self.same((x,), (("copy", 5, 2),), False, begin=(made,))
            self.same((x,), (("copy", 4, 3),), False, begin=(made,))
            self.same((x,), (("copy", 5, 3),), False)
            self.same((x,), (("copy", 5, 3),), False, begin=(made, ("word", 3, 1)))
            again = (made[0], 3, *made[2:])
            self.same((again,), (("copy", 3, 3),), True, variable=3, begin=(made,))
        self.same((("op", 5, "sub", 1, 2),), (("copy", 5, 3),), False, begin=(("op", 3, "sub", 2, 1),))
        self.same((("op", 5, "sub", 1, 2),), (("copy", 5, 3),), False, begin=(("op", 3, "sub", 1, 2), ("word", 1, 0)))
        self.same((("read", 5, "g"),), (("copy", 5, 3),), True, begin=(("write", "g", 3),))
        self.same((("read", 5, "g"),), (("copy", 5, 3),), False, begin=(("write", "g", 3), ("call", 4, "q", (), AT)))
        self.same((("load", 5, "t", 1),), (("copy", 5, 3),), True, begin=(("store", "t", 1, 3),))
        self.same((("load", 5, "t", 1),), (("copy", 5, 3),), False, begin=(("store", "t", 1, 3), ("store", "t", 2, 3)))
        self.same((("load", 5, 0, 1),), (("copy", 5, 3),), True, begin=(("store", 0, 1, 3), ("store", 1, 2, 3), ("call", 4, "q", (), AT)))
        # The fact is there, but what x reads does not agree.
        before = flow((("word", 1, 8), ("op", 3, "add", 1, 2), ("op", 5, "add", 1, 2), ("back", 5)))
        after = flow((("word", 1, 7), ("op", 3, "add", 1, 2), ("copy", 5, 3), ("back", 5)))
        self.no(before, after, (EVERY, ()))

    def test_neutral_operations_become_copies(self):
        for name, n in (("add", 0), ("sub", 0), ("or", 0), ("xor", 0), ("shl", 0), ("sar", 0), ("mul", 1), ("quo", 1), ("and", -1)):
            for number in (n, 0, 1, -1, 32, 2):
                answer = number == n
                self.same((("with", 5, name, 1, number),), (("copy", 5, 1),), answer)
                self.same((("op", 5, name, 1, 2),), (("copy", 5, 1),), answer, begin=(("word", 2, number),))
            self.same((("with", 5, name, 1, n),), (("copy", 5, 3),), True, begin=(("copy", 3, 1),))
            self.same((("with", 5, name, 1, n),), (("copy", 5, 3),), False)
            self.same((("with", 5, name, 1, n),), (("copy", 4, 1),), False)
            self.same((("with", 5, name, 1, n),), (("copy", 5, 1),), False, agreeing=(0, 2, 3, 4, 5))
            self.same((("op", 5, name, 1, 2),), (("copy", 5, 3),), True, begin=(("word", 2, n), ("copy", 3, 1)))
            self.same((("op", 5, name, 1, 2),), (("copy", 5, 2),), False, begin=(("word", 2, n),))
            self.same((("op", 5, name, 1, 2),), (("copy", 5, 1),), False)
            before = flow((("word", 2, 5), ("op", 5, name, 1, 2), ("back", 5)))
            after = flow((("word", 2, n), ("copy", 5, 1), ("back", 5)))
            self.no(before, after, (EVERY, ()))
        for name in ("lt", "le", "eq", "ne", "mod"):
            for number in (0, 1, -1):
                self.same((("with", 5, name, 1, number),), (("copy", 5, 1),), False)
        self.same((("op", 5, "add", 2, 1),), (("copy", 5, 1),), False, begin=(("word", 2, 0),))

    def test_facts_are_those_before_the_two_deeds(self):
        # What x and y assign is still known while they are compared.
        self.same((("with", 1, "add", 1, 1),), (("word", 1, 8),), True, variable=1, begin=(("word", 1, 7),))
        self.same((("copy", 1, 2),), (("copy", 1, 1),), True, variable=1, begin=(("copy", 1, 2),))
        self.same((("op", 2, "add", 1, 2),), (("with", 2, "add", 1, 4),), True, variable=2, begin=(("word", 2, 4),))
        # Facts follow the after flow.
        before = flow((("word", 1, 4), ("op", 5, "add", 2, 1), ("back", 5)))
        self.yes(before, flow((("word", 1, 4), ("with", 5, "add", 2, 4), ("back", 5))), (EVERY, ()))
        self.no(before, flow((("skip",), ("with", 5, "add", 2, 4), ("back", 5))), (EVERY, ()))


class CheckTest(Judged):
    """Cases 2 and 3 of point 37."""

    def test_checks_that_are_needless(self):
        for check, begin in (
            (("nonzero", 1, AT), (("word", 1, 3),)), (("nonzero", 1, AT), (("nonzero", 1, FAR),)),
            (("inside", 1, 4, AT), (("word", 1, 3),)), (("inside", 1, 4, AT), (("word", 1, 0),)),
            (("inside", 1, 4, AT), (("inside", 1, 4, FAR),)), (("inside", 1, 4, AT), (("inside", 1, 1, FAR),)),
            (("depth", 2, AT), (("depth", 2, FAR),)), (("depth", 2, AT), (("depth", 5, FAR), ("call", 2, "q", (), AT))),
        ):
            self.same((check,), (("skip",),), True, begin=begin)
            self.same((check,), (("skip",),), False)
            self.same((check,), (("moves", (), ()),), False, begin=begin)
            self.same((check,), (check,), True, begin=begin)
            self.same((("skip",),), (check,), False, begin=begin)
        for check, begin in (
            (("nonzero", 1, AT), (("word", 1, 0),)), (("nonzero", 1, AT), (("nonzero", 2, AT),)), (("inside", 1, 4, AT), (("word", 1, 4),)),
            (("inside", 1, 4, AT), (("word", 1, -1),)), (("inside", 1, 4, AT), (("inside", 1, 5, AT),)),
            (("inside", 1, 4, AT), (("inside", 2, 4, AT),)), (("depth", 2, AT), (("depth", 1, AT),)),
            (("nonzero", 1, AT), (("nonzero", 1, AT), ("copy", 1, 2))),
        ):
            self.same((check,), (("skip",),), False, begin=begin)

    def test_a_needless_check_is_one_of_an_agreeing_variable(self):
        for check, n in ((("nonzero", 1, AT), 3), (("inside", 1, 4, AT), 3)):
            before = flow((("word", 1, 2), check, ("back", 5)))
            after = flow((("word", 1, n), ("skip",), ("back", 5)))
            self.no(before, after, (EVERY, ()))
            self.yes(flow((("word", 1, n), check, ("back", 5))), after, (EVERY, ()))
        self.same((("depth", 1, AT),), (("skip",),), True, agreeing=(5,), begin=(("depth", 1, AT),))

    def test_only_checks_become_skips(self):
        for x in (("write", "g", 1), ("store", "t", 1, 2), ("call", 4, "q", (), AT), ("tell", 1, AT)):
            self.same((x,), (("skip",),), False)
            self.same((("skip",),), (x,), False)
            self.same((x,), (("word", 4, 0),), False)
            self.same((x,), (x,), True)

    def test_other_deeds_are_the_same_but_for_like_variables(self):
        twins = {
            ("write", "g", 1): (("write", "h", 1), ("write", "g", 3), ("tell", 1, AT)),
            ("store", "t", 1, 2): (("store", "u", 1, 2), ("store", 0, 1, 2), ("store", "t", 3, 2), ("store", "t", 1, 3), ("store", "t", 2, 1)),
            ("store", 1, 1, 1): (("store", 0, 1, 1), ("store", 1, 1, 2)),
            ("nonzero", 1, AT): (("nonzero", 3, AT), ("nonzero", 1, FAR), ("inside", 1, 1, AT)),
            ("inside", 1, 4, AT): (("inside", 3, 4, AT), ("inside", 1, 3, AT), ("inside", 1, 5, AT), ("inside", 1, 4, FAR)),
            ("depth", 2, AT): (("depth", 1, AT), ("depth", 3, AT), ("depth", 2, FAR)),
            ("call", 4, "q", (1, 2, 1), AT): (
                ("call", 4, "r", (1, 2, 1), AT), ("call", 3, "q", (1, 2, 1), AT), ("call", 4, "q", (1, 2, 1), FAR), ("call", 4, "q", (1, 2), AT),
                ("call", 4, "q", (1, 2, 1, 1), AT), ("call", 4, "q", (2, 1, 1), AT), ("call", 4, "q", (1, 2, 3), AT)),
            ("call", 4, "q", (), AT): (("call", 4, "q", (1,), AT), ("call", 4, "q", (), FAR)),
            ("tell", 1, AT): (("tell", 2, AT), ("tell", 1, FAR), ("tell", 1, AT + AT), ("write", "g", 1), ("nonzero", 1, AT)),
        }
        for x, others in twins.items():
            self.same((x,), (x,), True)
            for y in others:
                self.same((x,), (y,), False)
                self.same((y,), (x,), False)
            if 1 in x[1:-1] or x[0] == "write":
                self.same((x,), (x,), False, agreeing=(0, 2, 3, 4, 5))
        for x, y in ((("write", "g", 1), ("write", "g", 2)), (("store", "t", 1, 3), ("store", "t", 2, 3)), (("tell", 1, AT), ("tell", 2, AT)),
                     (("store", "t", 3, 1), ("store", "t", 3, 2)), (("nonzero", 1, AT), ("nonzero", 2, AT)),
                     (("inside", 1, 4, AT), ("inside", 2, 4, AT)), (("call", 4, "q", (1, 3, 2), AT), ("call", 4, "q", (2, 3, 1), AT))):
            self.same((x,), (y,), True, begin=(("copy", 1, 2),))
            self.same((x,), (y,), True, begin=(("copy", 2, 1),))
            self.same((x,), (y,), False)

    def test_a_call_makes_its_variable_agree(self):
        call = ("call", 5, "q", (1,), AT)
        self.same((call,), (call,), True, agreeing=(1,))
        self.same((call,), (call,), True, agreeing=(1, 5))
        self.same((call,), (call,), False, agreeing=(1,), variable=4)


class EndTest(Judged):
    """Points 39 and 40."""

    def test_jumps(self):
        before = flow((("jump", 1),), (("jump", 2),), (("back", 0),))
        self.yes(before, before, ((0,), ()), ((0,), ()), ((0,), ()))
        self.no(before, flow((("jump", 2),), (("jump", 2),), (("back", 0),)), ((0,), ()), ((0,), ()), ((0,), ()))

    def test_backs(self):
        self.same((), (), True)
        self.same((), (), False, agreeing=(0, 1))
        before, after = flow((("copy", 1, 2), ("back", 1))), flow((("copy", 1, 2), ("back", 2)))
        self.yes(before, after, ((2,), ()))
        self.no(before, after, ((1,), ()))
        self.no(flow((("skip",), ("back", 1))), flow((("skip",), ("back", 2))), (EVERY, ()))
        self.no(flow((("jump", 0),)), flow((("back", 0),)), (EVERY, ()))
        self.no(flow((("back", 0),)), flow((("jump", 0),)), (EVERY, ()))

    def test_forks(self):
        def three(end, begin=()):
            return flow((*begin, end), (("back", 0),), (("back", 0),))

        entries = (EVERY, ()), ((0,), ()), ((0,), ())
        fork = ("fork", 1, 1, 2)
        self.yes(three(fork), three(fork), *entries)
        for other in (("fork", 1, 2, 1), ("fork", 1, 1, 1), ("fork", 1, 2, 2), ("fork", 2, 1, 2), ("jump", 1), ("jump", 2), ("back", 1)):
            self.no(three(fork), three(other), *entries)
            self.no(three(other), three(fork), *entries)
        self.no(three(fork), three(fork), ((0,), ()), *entries[1:])
        begin = (("copy", 2, 1),)
        self.yes(three(fork, begin), three(("fork", 2, 1, 2), begin), *entries)
        # A fork that always goes one way.
        for begin, target in (((("word", 1, 4),), 1), ((("nonzero", 1, AT),), 1), ((("word", 1, 0),), 2)):
            self.yes(three(fork, begin), three(("jump", target), begin), *entries)
            self.no(three(fork, begin), three(("jump", 3 - target), begin), *entries)
            self.no(three(("jump", target), begin), three(fork, begin), *entries)
        self.no(three(fork, (("word", 1, 5),)), three(("jump", 1), (("word", 1, 4),)), *entries)
        self.no(three(fork, (("word", 1, 5),)), three(("jump", 2), (("word", 1, 0),)), *entries)
        # Both targets are the same.
        same = ("fork", 1, 2, 2)
        self.yes(three(same), three(same), *entries)
        self.no(three(same), three(("jump", 2)), *entries)
        for n in (0, 1):
            self.yes(three(same, (("word", 1, n),)), three(("jump", 2), (("word", 1, n),)), *entries)
            self.no(three(same, (("word", 1, n),)), three(("jump", 1), (("word", 1, n),)), *entries)

    def test_what_entries_say(self):
        two = flow((("word", 1, 5), ("copy", 2, 3), ("jump", 1)), (("back", 1),))
        for agreeing, facts, answer in (
            ((1,), (), True), ((1, 2, 3), (("word", 1, 5), ("copy", 2, 3)), True), ((1,), (("copy", 2, 3), ("word", 1, 5)), True),
            ((1,), (("copy", 3, 2), ("nonzero", 1), ("inside", 1, 6), ("copy", 0, 0)), True), ((1, 4), (), False), ((1,), (("word", 1, 6),), False),
            ((1,), (("inside", 1, 5),), False), ((1,), (("depth", 1),), False), ((1,), (("word", 2, 0),), False),
        ):
            self.assertIs(self.ask(two, two, Paper((), (((1, 3), ()), (agreeing, facts)))), answer, (agreeing, facts))
        self.no(two, two, ((1, 3), ()), None)

    def test_a_fork_tells_something_to_its_targets(self):
        def asked(end, first, second, answer, begin=()):
            one = flow((*begin, end), (("back", 0),), (("back", 0),))
            self.assertIs(self.ask(one, one, Paper((), ((EVERY, ()), ((0,), first), ((0,), second)))), answer, (end, first, second))

        fork, same = ("fork", 1, 1, 2), ("fork", 1, 1, 1)
        asked(fork, (("nonzero", 1),), (("word", 1, 0),), True)
        asked(fork, (("nonzero", 1),), (("inside", 1, 1),), True)
        asked(fork, (("word", 1, 0),), (), False)
        asked(fork, (), (("nonzero", 1),), False)
        asked(fork, (("nonzero", 2),), (), False)
        asked(fork, (), (("word", 2, 0),), False)
        asked(("fork", 1, 2, 1), (("word", 1, 0),), (("nonzero", 1),), True)
        asked(("fork", 1, 2, 1), (("nonzero", 1),), (), False)
        asked(same, (("nonzero", 1),), (), False)
        asked(same, (("word", 1, 0),), (), False)
        asked(same, (), (("word", 1, 0),), True)
        # It is appended: what was known before is known first.
        known = (("word", 1, 5),)
        asked(fork, (("nonzero", 1), ("word", 1, 5)), (("word", 1, 0), ("word", 1, 5), ("nonzero", 1)), True, begin=known)
        asked(fork, (), (("inside", 1, 1),), False, begin=known)
        asked(fork, (("word", 1, 0),), (), False, begin=known)
        asked(fork, (("word", 1, 0),), (("word", 1, 0),), True, begin=(("word", 1, 0),))

    def test_only_the_ways_of_the_after_flow_count(self):
        before = flow((("word", 1, 1), ("fork", 1, 1, 2)), (("back", 0),), (("tell", 0, AT), ("back", 0)))
        after = flow((("word", 1, 1), ("jump", 1)), (("back", 0),), (("tell", 3, AT), ("back", 0)))
        self.yes(before, after, (EVERY, ()), ((0,), ()), None)
        self.no(before, after, (EVERY, ()), ((0,), ()), ((0,), ()))
        self.no(before, after, (EVERY, ()), None, None)

    def test_blocks_without_entry_are_not_looked_at(self):
        before, after = flow((("back", 0),), (("tell", 1, AT), ("jump", 0))), flow((("back", 0),), (("word", 2, 3), ("back", 4)))
        self.yes(before, after, ((0,), ()), None)
        self.no(before, after, ((0,), ()), ((0, 1), ()))

    def test_loops(self):
        turning = flow((("word", 1, 3), ("jump", 1)), (("fork", 0, 2, 3),), (("with", 0, "sub", 0, 1), ("inside", 1, 4, AT), ("jump", 1)), (("back", 1),))
        better = flow((("word", 1, 3), ("jump", 1)), (("fork", 0, 2, 3),), (("with", 0, "sub", 0, 1), ("skip",), ("jump", 1)), (("back", 1),))
        fact = (("word", 1, 3),)
        self.yes(turning, better, ((0,), ()), ((0, 1), fact), ((0, 1), fact), ((1,), ()))
        self.no(turning, better, ((0,), ()), ((0, 1), ()), ((0, 1), fact), ((1,), ()))
        self.no(turning, better, ((0,), ()), ((0, 1), fact), ((0, 1), ()), ((1,), ()))
        self.no(turning, better, ((0,), ()), ((0, 1), fact), ((0, 1), fact), ((0, 2), ()))
        # Block 0 may be the head of a loop; nothing is known there.
        itself = flow((("tell", 0, AT), ("word", 0, 3), ("jump", 0)))
        self.yes(itself, itself, ((0,), ()))
        self.yes(itself, itself, ((0, 4), ()))
        other = flow((("tell", 0, AT), ("word", 0, 4), ("jump", 0)))
        self.no(itself, other, ((0,), ()))
        # A made-up entry of a block that nothing goes to from outside.
        apart = flow((("back", 0),), (("nonzero", 1, AT), ("jump", 1)))
        without = flow((("back", 0),), (("skip",), ("jump", 1)))
        self.yes(apart, without, ((0,), ()), ((1,), (("word", 1, 7),)))
        self.no(apart, without, ((0,), ()), ((1,), (("word", 1, 0),)))


if __name__ == "__main__":
    unittest.main()
