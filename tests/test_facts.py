"""Points 31, 32 and 33: facts."""

import random
import unittest

from sameruns.papers.facts import after_deed, implied, known_word
from tests.flowdrawing import FlowDrawer
from tests.secondjudge import after as second_after
from tests.secondjudge import implied as second_implied
from tests.secondjudge import known as second_known

AT = (("f", 0),)

# One fact of each kind, on variables 1 to 3, and global and local ones of the same variables.
FACTS = (
    ("word", 1, 5), ("copy", 2, 3), ("op", 1, "add", 2, 3), ("with", 3, "mul", 2, 4), ("read", 1, "g"), ("read", 2, "h"),
    ("load", 1, "t", 2), ("load", 3, 0, 2), ("load", 2, "u", 3), ("load", 2, 1, 1), ("nonzero", 1), ("inside", 2, 4), ("depth", 2),
)


def without(*indexes):
    """The facts but those with these indexes."""
    return tuple([fact for index, fact in enumerate(FACTS) if index not in indexes])


class AfterTest(unittest.TestCase):
    def test_examples_of_the_interface(self):
        facts = after_deed((("read", 1, "g"), ("word", 2, 5)), ("op", 1, "add", 2, 2))
        self.assertEqual(facts, (("word", 2, 5), ("op", 1, "add", 2, 2)))
        self.assertIs(implied(facts, ("inside", 2, 6)), True)
        self.assertIs(implied(facts, ("inside", 2, 5)), False)

    def test_plain_deeds_that_assign_one_variable(self):
        about = {1: (0, 2, 4, 6, 9, 10), 2: (1, 2, 3, 5, 6, 7, 8, 9, 11), 3: (1, 2, 3, 7, 8), 4: ()}
        for variable, dropped in about.items():
            for deed in (("word", variable, 9), ("copy", variable, 5), ("op", variable, "sub", 5, 6), ("with", variable, "sub", 5, 6),
                         ("read", variable, "g"), ("load", variable, "t", 5), ("load", variable, 0, 5)):
                self.assertEqual(after_deed(FACTS, deed), (*without(*dropped), deed), deed)
            for deed in (("copy", variable, variable), ("op", variable, "sub", 5, variable), ("op", variable, "sub", variable, 5),
                         ("op", variable, "add", variable, variable), ("with", variable, "add", variable, 0),
                         ("load", variable, "t", variable)):
                self.assertEqual(after_deed(FACTS, deed), without(*dropped), deed)

    def test_kinds_of_values(self):
        self.assertIs(type(after_deed(FACTS, ("skip",))), tuple)
        self.assertIs(type(after_deed((), ("skip",))), tuple)
        self.assertEqual(after_deed((), ("word", 0, 1)), (("word", 0, 1),))

    def test_moves(self):
        self.assertEqual(after_deed(FACTS, ("moves", (), ())), FACTS)
        self.assertEqual(after_deed(FACTS, ("moves", (4, 5), (1, 2))), (*FACTS, ("copy", 4, 1), ("copy", 5, 2)))
        self.assertEqual(after_deed(FACTS, ("moves", (5, 4), (1, 1))), (*FACTS, ("copy", 5, 1), ("copy", 4, 1)))
        self.assertEqual(after_deed(FACTS, ("moves", (1, 4), (2, 1))), (*without(0, 2, 4, 6, 9, 10), ("copy", 1, 2)))
        self.assertEqual(after_deed((("depth", 1),), ("moves", (1, 2), (2, 1))), (("depth", 1),))
        self.assertEqual(after_deed((("word", 1, 5),), ("moves", (1,), (1,))), ())
        self.assertEqual(after_deed((), ("moves", (1, 2, 3), (3, 4, 5))), (("copy", 2, 4), ("copy", 3, 5)))

    def test_writes_and_stores(self):
        self.assertEqual(after_deed(FACTS, ("write", "g", 7)), (*without(4), ("read", 7, "g")))
        self.assertEqual(after_deed(FACTS, ("write", "h", 7)), (*without(5), ("read", 7, "h")))
        self.assertEqual(after_deed(FACTS, ("write", "t", 7)), (*FACTS, ("read", 7, "t")))
        # The fact that was there is dropped and comes back at the end.
        self.assertEqual(after_deed(FACTS, ("write", "g", 1)), (*without(4), ("read", 1, "g")))
        self.assertEqual(after_deed((("read", 1, "g"), ("read", 2, "g")), ("write", "g", 1)), (("read", 1, "g"),))
        self.assertEqual(after_deed(FACTS, ("store", "t", 2, 7)), (*without(6), ("load", 7, "t", 2)))
        self.assertEqual(after_deed(FACTS, ("store", 0, 5, 6)), (*without(7), ("load", 6, 0, 5)))
        self.assertEqual(after_deed(FACTS, ("store", 1, 5, 5)), (*without(9), ("load", 5, 1, 5)))
        self.assertEqual(after_deed(FACTS, ("store", "g", 5, 5)), (*FACTS, ("load", 5, "g", 5)))
        self.assertEqual(after_deed((("load", 1, 0, 2),), ("store", "0", 2, 1)), (("load", 1, 0, 2), ("load", 1, "0", 2)))

    def test_calls(self):
        self.assertEqual(after_deed(FACTS, ("call", 6, "g", (1, 2), AT)), without(4, 5, 6, 8))
        self.assertEqual(after_deed(FACTS, ("call", 1, "g", (), AT)), without(0, 2, 4, 5, 6, 8, 9, 10))

    def test_checks(self):
        self.assertEqual(after_deed(FACTS, ("nonzero", 2, AT)), (*FACTS, ("nonzero", 2)))
        self.assertEqual(after_deed(FACTS, ("inside", 2, 5, AT)), (*FACTS, ("inside", 2, 5)))
        self.assertEqual(after_deed(FACTS, ("depth", 3, AT)), (*FACTS, ("depth", 3)))
        for deed in (("nonzero", 1, AT), ("inside", 2, 4, AT), ("depth", 2, AT)):
            self.assertEqual(after_deed(FACTS, deed), FACTS)

    def test_deeds_that_leave_facts_as_they_are(self):
        for deed in (("skip",), ("tell", 1, AT), ("jump", 3), ("fork", 1, 2, 3), ("back", 1)):
            self.assertEqual(after_deed(FACTS, deed), FACTS)

    def test_nothing_stands_twice(self):
        facts = (("word", 1, 5), ("read", 2, "g"))
        for deed in (("word", 1, 5), ("read", 2, "g")):
            found = after_deed(facts, deed)
            self.assertEqual((len(found), found[-1]), (2, deed))
        self.assertEqual(after_deed((("copy", 1, 2),), ("moves", (1,), (2,))), (("copy", 1, 2),))


class ImpliedTest(unittest.TestCase):
    def check(self, facts, fact, answer):
        self.assertIs(implied(facts, fact), answer, (facts, fact))

    def test_a_fact_that_is_there(self):
        for fact in FACTS:
            self.check(FACTS, fact, True)
            self.check((), fact, False)
            self.check(tuple([other for other in FACTS if other != fact]), fact, fact == ("nonzero", 1))

    def test_copies(self):
        self.check((), ("copy", 4, 4), True)
        self.check((("copy", 1, 2),), ("copy", 1, 2), True)
        self.check((("copy", 1, 2),), ("copy", 2, 1), True)
        self.check((("copy", 1, 2), ("copy", 2, 3)), ("copy", 1, 3), False)
        self.check((("word", 1, 5), ("word", 2, 5)), ("copy", 1, 2), True)
        self.check((("word", 1, 0), ("word", 2, 0)), ("copy", 1, 2), True)
        self.check((("word", 1, 5), ("word", 2, 6)), ("copy", 1, 2), False)
        self.check((("word", 1, 5),), ("copy", 1, 2), False)
        self.check((("word", 1, 5), ("word", 2, 6), ("word", 2, 5)), ("copy", 1, 2), False)

    def test_nonzero(self):
        for word, answer in ((1, True), (-1, True), (-2147483648, True), (0, False)):
            self.check((("word", 1, word),), ("nonzero", 1), answer)
        self.check((("word", 2, 1),), ("nonzero", 1), False)
        self.check((("word", 1, 0), ("word", 1, 3)), ("nonzero", 1), False)
        self.check((("word", 1, 3), ("word", 1, 0)), ("nonzero", 1), True)
        self.check((("inside", 1, 3), ("copy", 1, 2), ("nonzero", 2)), ("nonzero", 1), False)

    def test_inside(self):
        for word, answer in ((-1, False), (0, True), (3, True), (4, False), (2147483647, False), (-2147483648, False)):
            self.check((("word", 1, word),), ("inside", 1, 4), answer)
        for length, answer in ((3, True), (4, True), (5, False)):
            self.check((("inside", 1, length),), ("inside", 1, 4), answer)
        self.check((("inside", 1, 9), ("inside", 1, 2)), ("inside", 1, 4), True)
        self.check((("inside", 2, 1),), ("inside", 1, 4), False)
        self.check((("word", 1, 9), ("inside", 1, 2)), ("inside", 1, 4), True)
        self.check((("word", 1, 9), ("word", 1, 2)), ("inside", 1, 4), False)
        self.check((("word", 1, 0),), ("inside", 1, 1), True)

    def test_depth(self):
        for many, answer in ((1, False), (2, False), (3, True), (4, True)):
            self.check((("depth", many),), ("depth", 3), answer)
        self.check((("depth", 1), ("depth", 9), ("depth", 2)), ("depth", 8), True)
        self.check((), ("depth", 1), False)

    def test_others_are_implied_by_themselves_only(self):
        facts = (("word", 1, 5), ("word", 2, 5), ("word", 3, 10), ("copy", 4, 1))
        for fact in (("word", 4, 5), ("op", 3, "add", 1, 2), ("with", 3, "add", 1, 5), ("word", 1, 6), ("read", 1, "g"), ("load", 1, "t", 2)):
            self.check(facts, fact, False)
        self.check((("op", 3, "add", 1, 2),), ("op", 3, "add", 2, 1), False)

    def test_known_word(self):
        facts = (("copy", 1, 2), ("word", 2, 0), ("word", 3, -7), ("word", 3, 4), ("with", 4, "add", 3, 1))
        self.assertEqual([known_word(facts, variable) for variable in range(6)], [None, None, 0, -7, None, None])
        self.assertIsNone(known_word((), 0))


class DrawnTest(unittest.TestCase):
    def test_against_a_second_reading(self):
        for seed in range(400):
            drawer = FlowDrawer(random.Random(seed), "f", 2, [("f", 2)], most=6)
            if drawer.count == 0:
                continue
            facts = ()
            for _ in range(40):
                deed = drawer.deed()
                before = facts
                facts = after_deed(facts, deed)
                self.assertEqual(facts, second_after(before, deed), (before, deed))
                asked = drawer.deed()
                asked = asked[:-1] if asked[0] in ("nonzero", "inside", "depth") else asked
                if asked[0] in ("word", "copy", "op", "with", "read", "load", "nonzero", "inside", "depth"):
                    self.assertIs(implied(facts, asked), second_implied(facts, asked), (facts, asked))
                for variable in range(drawer.count):
                    self.assertEqual(known_word(facts, variable), second_known(facts, variable))


if __name__ == "__main__":
    unittest.main()
