"""Points 24, 25 and 26: deeds, flows and middles."""

import unittest

from sameruns.basics.errors import BadFlow
from sameruns.basics.operations import OPERATIONS
from sameruns.middle.deeds import assigns, is_plain, reads, targets
from sameruns.middle.flows import Flow, Middle

AT = (("f", 3),)
EIGHT = AT * 8

# Each deed with what it reads, assigns and goes to.
DEEDS = (
    (("word", 1, 5), (), (1,), ()),
    (("copy", 1, 2), (2,), (1,), ()),
    (("op", 2, "add", 1, 1), (1, 1), (2,), ()),
    (("op", 3, "sub", 2, 1), (2, 1), (3,), ()),
    (("with", 1, "shl", 2, 4), (2,), (1,), ()),
    (("read", 1, "g"), (), (1,), ()),
    (("load", 3, "t", 2), (2,), (3,), ()),
    (("load", 3, 0, 2), (2,), (3,), ()),
    (("moves", (), ()), (), (), ()),
    (("moves", (3, 1), (2, 2)), (2, 2), (3, 1), ()),
    (("skip",), (), (), ()),
    (("write", "g", 3), (3,), (), ()),
    (("store", "t", 3, 1), (3, 1), (), ()),
    (("store", 1, 2, 2), (2, 2), (), ()),
    (("nonzero", 2, AT), (2,), (), ()),
    (("inside", 2, 9, AT), (2,), (), ()),
    (("depth", 1, AT), (), (), ()),
    (("call", 3, "f", (), AT), (), (3,), ()),
    (("call", 3, "f", (2, 1, 2), AT), (2, 1, 2), (3,), ()),
    (("tell", 2, AT), (2,), (), ()),
    (("jump", 2), (), (), (2,)),
    (("fork", 3, 2, 1), (3,), (), (2, 1)),
    (("fork", 3, 2, 2), (3,), (), (2, 2)),
    (("back", 2), (2,), (), ()),
)


class DeedsTest(unittest.TestCase):
    def test_reads_assigns_and_targets(self):
        for deed, read, assigned, reached in DEEDS:
            self.assertEqual((reads(deed), assigns(deed), targets(deed)), (read, assigned, reached), deed)
            for found in (reads(deed), assigns(deed), targets(deed)):
                self.assertIs(type(found), tuple)

    def test_plain_deeds(self):
        plain = ("word", "copy", "op", "with", "read", "load", "moves", "skip")
        for deed, _, _, _ in DEEDS:
            self.assertIs(is_plain(deed), deed[0] in plain)


def flow(*blocks, count=4, params=(0,), arrays=(2, 3), name="f"):
    return Flow(name, params, count, arrays, blocks)


def refusal(*blocks, **more):
    """The block and position of BadFlow, or None."""
    try:
        flow(*blocks, **more)
    except BadFlow as error:
        return (error.block, error.position)
    return None


BACK = ("back", 0)
ONLY = (BACK,)


class FlowTest(unittest.TestCase):
    def test_fields_and_parts(self):
        blocks = ((("word", 1, 5), ("jump", 1)), (("back", 1),))
        found = Flow("name", (1, 0), 2, (4,), blocks)
        self.assertEqual((found.name, found.params, found.count, found.arrays, found.blocks),
                         ("name", (1, 0), 2, (4,), blocks))
        self.assertEqual(found.parts(), ("name", (1, 0), 2, (4,), blocks))
        self.assertIs(type(found.parts()), tuple)

    def test_all_deeds_at_once(self):
        ends = [row[0] for row in DEEDS if row[0][0] in ("jump", "fork", "back")]
        plain = tuple([row[0] for row in DEEDS if row[0] not in ends])
        for end in ends:
            self.assertIsNone(refusal((*plain, end), ONLY, ONLY))
            self.assertEqual(flow((*plain, end), ONLY, ONLY).blocks, ((*plain, end), ONLY, ONLY))

    def test_a_flow_without_variables(self):
        self.assertIsNone(refusal((("skip",), ("depth", 1, AT), ("jump", 0)), count=0, params=()))
        self.assertEqual(refusal((("word", 0, 1), ("jump", 0)), count=0, params=()), (0, 0))

    def test_parameters(self):
        self.assertIsNone(refusal(ONLY, params=(3, 0, 2)))
        for params, index in (((4,), 0), ((0, 4), 1), ((-1,), 0), ((0, 1, 0), 2), ((0, 0, 9), 1), ((9, 0, 0), 0),
                              ((1, 2, 3, 4), 3)):
            self.assertEqual(refusal(ONLY, params=params), (-1, index), params)
        self.assertEqual(refusal(ONLY, params=(0,), count=0), (-1, 0))
        self.assertEqual(refusal(params=(0, 0)), (-1, 1))

    def test_blocks(self):
        self.assertEqual(refusal(), (0, 0))
        self.assertEqual(refusal(()), (0, 0))
        self.assertEqual(refusal(ONLY, (), ONLY), (1, 0))
        self.assertEqual(refusal(ONLY, ()), (1, 0))

    def test_deeds_that_are_none(self):
        for deed in (
            ("nop",), ("add", 1, 2), (), ("skip", 1), ("word",), ("word", 1), ("word", 1, 2, 3), ("copy", 1),
            ("op", 1, "add", 2), ("op", 1, "add", 2, 3, 1), ("with", 1, "add", 2), ("read", 1), ("load", 1, "t"),
            ("moves", ()), ("moves", (), (), ()), ("write", "g"), ("store", "t", 1), ("nonzero", 1), ("inside", 1, 2),
            ("depth", 1), ("call", 1, "f", ()), ("tell", 1), ("tell", 1, AT, 2),
        ):
            self.assertEqual(refusal((deed, BACK)), (0, 0), deed)
        for end in (("jump",), ("jump", 0, 0), ("fork", 0, 1), ("back",), ("back", 1, 2), ("return", 1)):
            self.assertEqual(refusal((("skip",), end), ONLY), (0, 1), end)

    def test_variables(self):
        for deed, _, _, _ in DEEDS:
            if deed[0] in ("moves", "skip", "depth", "jump"):
                continue
            for at, entry in enumerate(deed):
                is_variable = isinstance(entry, int) and at > 0 and not (
                    at == 2 and deed[0] in ("word", "inside", "fork") or at == 4 and deed[0] == "with"
                    or at == 1 and deed[0] == "store" or at == 2 and deed[0] == "load" or at == 3 and deed[0] == "fork")
                if not is_variable:
                    continue
                for variable, good in ((0, True), (3, True), (4, False), (-1, False)):
                    changed = deed[:at] + (variable,) + deed[at + 1:]
                    block = (("skip",), changed) + (() if deed[0] in ("fork", "back") else (BACK,))
                    self.assertEqual(refusal(block, ONLY, ONLY), None if good else (0, 1), changed)
        for args, good in (((0, 3), True), ((0, 4), False), ((-1,), False), ((4,), False), ((1, 1), True)):
            for deed in (("call", 0, "f", args, AT), ("moves", tuple(range(len(args))), args)):
                self.assertEqual(refusal((deed, BACK)), None if good else (0, 0), deed)
        self.assertEqual(refusal((("moves", (4,), (0,)), BACK)), (0, 0))

    def test_entries_of_another_kind(self):
        for deed in (("copy", "a", 1), ("copy", 1, None), ("word", 1, "5"), ("load", 1, (0,), 2), ("read", 1, 7),
                     ("call", 1, 4, (), AT), ("call", 1, "f", 2, AT), ("moves", 1, 2), ("tell", 1, 5),
                     ("inside", 1, "2", AT), ("depth", None, AT), ("op", 1, 2, 2, 2)):
            self.assertEqual(refusal((deed, BACK)), (0, 0), deed)
        self.assertEqual(refusal((("jump", "0"),)), (0, 0))

    def test_moves(self):
        for targets_of, sources, good in (
            ((0, 1), (1, 0), True), ((0,), (1, 0), False), ((0, 1), (1,), False), ((1, 1), (2, 3), False),
            ((0, 1, 0), (1, 2, 3), False), ((0, 1), (2, 2), True), ((), (), True), ((2,), (2,), True),
        ):
            self.assertEqual(refusal((("moves", targets_of, sources), BACK)), None if good else (0, 0))

    def test_rows(self):
        for row, good in (("t", True), ("x", True), (0, True), (1, True), (2, False), (-1, False)):
            for deed in (("load", 1, row, 2), ("store", row, 1, 2)):
                self.assertEqual(refusal((deed, BACK)), None if good else (0, 0), deed)
        self.assertEqual(refusal((("load", 1, 0, 2), BACK), arrays=()), (0, 0))

    def test_operations(self):
        for name in OPERATIONS:
            self.assertIsNone(refusal((("op", 1, name, 2, 3), ("with", 1, name, 2, 3), BACK)))
        for name in ("plus", "", "Add", "+"):
            self.assertEqual(refusal((("op", 1, name, 2, 3), BACK)), (0, 0))
            self.assertEqual(refusal((("with", 1, name, 2, 3), BACK)), (0, 0))

    def test_numbers(self):
        for n, good in ((2147483647, True), (-2147483648, True), (2147483648, False), (-2147483649, False)):
            for deed in (("word", 1, n), ("with", 1, "add", 2, n)):
                self.assertEqual(refusal((deed, BACK)), None if good else (0, 0), deed)
        for n, good in ((1, True), (1000, True), (0, False), (-1, False), (5000, True)):
            for deed in (("inside", 1, n, AT), ("depth", n, AT)):
                self.assertEqual(refusal((deed, BACK)), None if good else (0, 0), deed)

    def test_chains(self):
        for at, good in ((AT, True), (EIGHT, True), ((), False), (EIGHT + AT, False)):
            for deed in (("nonzero", 1, at), ("inside", 1, 2, at), ("depth", 1, at), ("call", 1, "f", (), at), ("tell", 1, at)):
                self.assertEqual(refusal((deed, BACK)), None if good else (0, 0), deed)

    def test_targets(self):
        skip = (("skip",),)
        for end, good in (
            (("jump", 0), True), (("jump", 1), True), (("jump", 2), True), (("jump", 3), False), (("jump", -1), False),
            (("fork", 0, 2, 2), True), (("fork", 0, 1, 2), False), (("fork", 0, 2, 1), False), (("fork", 0, 0, 2), False),
            (("fork", 0, 2, 3), False), (("fork", 0, 3, 2), False), (("fork", 0, -1, 2), False),
        ):
            self.assertEqual(refusal(ONLY, skip + (end,), ONLY), None if good else (1, 1), end)

    def test_ends_stand_at_the_last_position(self):
        self.assertEqual(refusal((("skip",),)), (0, 0))
        self.assertEqual(refusal((("skip",), ("tell", 0, AT))), (0, 1))
        self.assertEqual(refusal((BACK, BACK)), (0, 0))
        self.assertEqual(refusal((("skip",), ("jump", 0), ("skip",), BACK)), (0, 1))
        self.assertEqual(refusal(ONLY, (("skip",), ("fork", 0, 2, 2), BACK), ONLY), (1, 1))

    def test_which_of_two_comes_first(self):
        bad = ("word", 9, 0)
        self.assertEqual(refusal((("skip",), bad, bad, BACK)), (0, 1))
        self.assertEqual(refusal((("skip",), BACK, bad)), (0, 1))
        self.assertEqual(refusal((bad, BACK), ()), (0, 0))
        self.assertEqual(refusal(ONLY, (), (bad, BACK)), (1, 0))
        self.assertEqual(refusal(ONLY, (("skip",), bad, BACK), ()), (1, 1))
        self.assertEqual(refusal((bad, BACK), params=(7,)), (-1, 0))
        self.assertEqual(refusal((("skip",), ("skip",)), (bad, BACK)), (0, 1))


class MiddleTest(unittest.TestCase):
    one = Flow("f", (), 1, (), (ONLY,))
    two = Flow("g", (0,), 1, (3,), (ONLY,))

    def test_fields_and_parts(self):
        middle = Middle((("a", 3),), (("t", 4),), (self.one, self.two))
        self.assertEqual((middle.words, middle.arrays, middle.flows), ((("a", 3),), (("t", 4),), (self.one, self.two)))
        self.assertEqual(middle.parts(), ((("a", 3),), (("t", 4),), (self.one.parts(), self.two.parts())))
        self.assertIs(middle.flow("f"), self.one)
        self.assertIs(middle.flow("g"), self.two)

    def test_joined(self):
        first = Middle((("a", 3), ("b", 0)), (), (self.two,))
        second = Middle((), (("t", 4),), ())
        third = Middle((("c", -1),), (("u", 1),), (self.one,))
        joined = Middle.joined([first, second, third])
        self.assertIsInstance(joined, Middle)
        self.assertEqual(joined.parts(), (
            (("a", 3), ("b", 0), ("c", -1)), (("t", 4), ("u", 1)), (self.two.parts(), self.one.parts())))
        self.assertEqual(Middle.joined([]).parts(), ((), (), ()))
        self.assertEqual(Middle.joined([third]).parts(), third.parts())
        self.assertIs(joined.flow("f"), self.one)

    def test_a_list_that_is_passed_stays(self):
        middles = [Middle((("a", 3),), (), ()), Middle((), (), (self.one,))]
        before = list(middles)
        joined = Middle.joined(middles)
        self.assertEqual(middles, before)
        middles.clear()
        self.assertEqual(joined.parts(), ((("a", 3),), (), (self.one.parts(),)))


if __name__ == "__main__":
    unittest.main()
