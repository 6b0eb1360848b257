"""Points 13 and 15: levels, nodes and the numbers of statements."""

import unittest

from sameruns.lang.trees import levels, nodes, numbered

ONE = ("num", 1)
X = ("var", "x")


class LevelsTest(unittest.TestCase):
    def test_each_kind(self):
        rows = (
            (ONE, 1), (X, 1), (("item", "t", ONE), 2), (("un", "-", X), 2), (("bin", "+", ONE, X), 2),
            (("call", "f", ()), 1), (("call", "f", (ONE,)), 2), (("call", "f", (ONE, ("un", "!", X), X)), 3),
            (("bin", "&&", ONE, ("item", "t", ("un", "~", X))), 4), (("bin", "mod", ("un", "-", ONE), X), 3),
            (("item", "t", ("call", "f", ())), 2), (("call", "f", (("call", "g", ()),)), 2),
        )
        for tree, wanted in rows:
            self.assertEqual(levels(tree), wanted, tree)

    def test_many_levels(self):
        tree = X
        for _ in range(23):
            tree = ("un", "-", tree)
        self.assertEqual(levels(tree), 24)
        for _ in range(200):
            tree = ("bin", "+", tree, ONE)
        self.assertEqual(levels(tree), 224)


class NodesTest(unittest.TestCase):
    def test_expressions(self):
        rows = (
            (ONE, 1), (X, 1), (("item", "t", ONE), 2), (("un", "-", X), 2), (("bin", "+", ONE, X), 3),
            (("call", "f", ()), 1), (("call", "f", (ONE, X, ONE)), 4),
            (("bin", "||", ("un", "!", X), ("call", "f", (ONE,))), 5),
        )
        for tree, wanted in rows:
            self.assertEqual(nodes(tree), wanted, tree)

    def test_statements(self):
        add = ("bin", "+", ONE, X)
        rows = (
            (("set", "x", add), 4), (("put", "t", ONE, add), 5), (("do", "f", ()), 1), (("do", "f", (ONE, add)), 5),
            (("tell", ONE), 2), (("return", add), 4), (("break",), 1), (("continue",), 1),
            (("if", X, (), ()), 2), (("if", X, (("break",),), (("tell", ONE), ("tell", add))), 9),
            (("while", add, ()), 4), (("while", X, (("if", X, (("continue",),), ()), ("break",))), 6),
        )
        for tree, wanted in rows:
            self.assertEqual(nodes(tree), wanted, tree)


class NumberedTest(unittest.TestCase):
    def test_empty(self):
        self.assertEqual(numbered(()), [])

    def test_yes_before_no_and_nested_blocks(self):
        tell = [("tell", ("num", n)) for n in range(8)]
        inner = ("if", X, (tell[2], tell[3]), (tell[4],))
        loop = ("while", X, (tell[1], inner, tell[5]))
        body = (tell[0], ("if", ONE, (loop,), (tell[6],)), tell[7])
        wanted = [tell[0], body[1], loop, tell[1], inner, tell[2], tell[3], tell[4], tell[5], tell[6], tell[7]]
        found = numbered(body)
        self.assertEqual(found, list(enumerate(wanted)))
        self.assertIs(type(found), list)
        self.assertIs(type(found[0]), tuple)

    def test_equal_statements_have_their_own_numbers(self):
        same = ("if", X, (("break",),), (("break",),))
        self.assertEqual([row[0] for row in numbered((same, same))], [0, 1, 2, 3, 4, 5])

    def test_result_is_new(self):
        body = (("tell", ONE),)
        numbered(body).append(3)
        self.assertEqual(numbered(body), [(0, ("tell", ONE))])


if __name__ == "__main__":
    unittest.main()
