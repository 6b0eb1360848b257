"""Points 26 and 30: lowering, with points 24 to 29 and the simple loops of point 42."""

import random
import unittest

from sameruns.lang.programs import check_program
from sameruns.lang.trees import nodes, numbered
from sameruns.lang.unitreading import read_unit
from sameruns.lang.units import Unit, parted, use_of
from sameruns.middle.flows import Flow, Middle
from sameruns.middle.lowering import lower
from sameruns.source.source import run_source
from tests.drawing import drawn_cut, drawn_declarations
from tests.test_source import EXAMPLE
from tests.walker import SmallWalker, is_simple, regions, wanted_first

# Where each kind of deed has its chain.
CHAINS = {"nonzero": 2, "inside": 3, "depth": 2, "call": 4, "tell": 2}

# Statements, each with the number of its nodes, of which a function of 200 nodes may be full.
FILLINGS = (
    "tell 1;", "tell g;", "tell x;", "tell t[1];", "tell t[t[t[t[t[t[t[t[t[t[t[t[g]]]]]]]]]]]];", "tell k();", "k();",
    "f(1, 2, 3, 4, 5, 6);", "x = 1;", "x = x;", "g = x;", "g = g;", "t[1] = 2;", "r[x] = x;", "t[g] = g;", "return 1;",
    "tell ----------------------1;", "tell ~~~~~~~~~~~~~~~~~~~~~~x;", "tell !!!!!!!!!!!!!!!!!!!!!!g;", "tell -g;",
    "tell g + g;", "tell x / x;", "tell g mod g;", "tell x > x;", "tell 1 && 1;", "tell g || g;", "tell x && x;",
    "tell x && x && x && x && x && x && x && x && x && x && x && x && x;",
    "tell g || g || g || g || g || g || g || g || g || g || g || g || g;",
    "tell (g && g || g && g) && (g && g || g && g) || (g && g || g && g) && (g && g || g && g);",
    "if (x) { }", "if (g) { }", "if (1) { tell 1; }", "if (x) { } else { tell x; }", "if (x) { return x; } else { k(); }",
    "if (x) { return x; }", "if (x) { k(); } else { k(); }", "while (x) { }", "while (g) { }", "while (x && x) { }",
    "while (g || g) { }", "while (x) { break; }", "while (x) { continue; }", "while (x) { if (x) { continue; } }",
    "while (x) { if (x) { break; } else { continue; } }", "while (x) { while (x) { } }", "while (x) { k(); }",
    "while (x) { while (x) { while (x) { while (x) { while (x) { while (x) { break; } } } } } }",
    "if (x) { if (x) { if (x) { if (x) { if (x) { if (x) { k(); } } } } } }", "if (g && g) { k(); } else { k(); }",
    "while (g && g) { if (g) { continue; } }", "tell k() / k();", "t[k()] = k();", "tell t[k()] / t[k()];",
)
BEGIN = """word g; word t[1000]; word k() { } word f(word a, word b, word c, word d, word e, word h) { return a; }
word q(word a, word b, word c, word d, word e, word h) {
word x; word r[4]; word w1; word w2; word w3; word w4; word w5; word w6; word w7; word w8; word w9; word w10; word w11;
word w12; word w13; word w14; """


def weight(function):
    """The number of nodes of a function."""
    return sum([nodes(statement) for statement in function[4]])


def full(filling):
    """A unit with a function q that is as full of this statement as may be."""
    statement = read_unit(BEGIN + filling + " }").declarations[-1][4][0]
    body = " ".join([filling] * (200 // nodes(statement)))
    return read_unit(BEGIN + body + " } word main() { q(1, 0, 2, 3, 4, 5); }")


class Shape(unittest.TestCase):
    """What holds for the middle of every unit."""

    def check_unit(self, unit):
        before = unit.parts()
        middle = lower(unit)
        self.assertEqual(unit.parts(), before)
        self.assertIsInstance(middle, Middle)
        rows = unit.declarations
        self.assertEqual(middle.words, tuple([(row[1], row[2]) for row in rows if row[0] == "word"]))
        self.assertEqual(middle.arrays, tuple([(row[1], row[2]) for row in rows if row[0] == "array"]))
        functions = [row for row in rows if row[0] == "function"]
        self.assertEqual([flow.name for flow in middle.flows], [row[1] for row in functions])
        known = {use[1]: use for use in unit.uses}
        known.update({row[1]: use_of(row) for row in rows})
        for function, flow in zip(functions, middle.flows):
            self.check_flow(function, flow, known)
        return middle

    def check_flow(self, function, flow, known):
        self.assertEqual(Flow(*flow.parts()).parts(), flow.parts())
        self.assertEqual(flow.params, tuple(range(len(function[2]))))
        self.assertEqual(flow.arrays, tuple([row[2] for row in function[3] if row[0] == "array"]))
        self.assertLessEqual(flow.count, 240)
        self.assertLessEqual(len(flow.blocks), 320)
        self.assertLessEqual(sum([len(block) for block in flow.blocks]), 800)
        self.assertLessEqual(wanted_first(flow), set(flow.params))
        for head in regions(flow):
            self.assertTrue(is_simple(flow, head), (flow.blocks, head))
        numbers = range(len(numbered(function[4])))
        for block in flow.blocks:
            for deed in block:
                self.check_deed(function, deed, known, numbers)

    def check_deed(self, function, deed, known, numbers):
        if deed[0] in CHAINS:
            chain = deed[CHAINS[deed[0]]]
            self.assertEqual(len(chain), 1)
            self.assertEqual(chain[0][0], function[1])
            self.assertIn(chain[0][1], numbers)
        if deed[0] in ("read", "write"):
            self.assertEqual(known[deed[2] if deed[0] == "read" else deed[1]][0], "word")
        if deed[0] in ("load", "store"):
            row = deed[2] if deed[0] == "load" else deed[1]
            self.assertTrue(isinstance(row, int) or known[row][0] == "array")
        if deed[0] == "call":
            self.assertEqual(known[deed[2]], ("function", deed[2], len(deed[3])))

    def check_run(self, units, depth=32, rounds=12):
        """Compare the run of a program with that of its middle; return True if it could be done."""
        source = run_source(units, depth=depth, rounds=rounds, steps=4000)
        if source.steps == 4000:
            return False
        walker = SmallWalker(Middle.joined([lower(unit) for unit in units]), depth)
        walker.go(rounds, 10 ** 6)
        self.assertEqual(walker.shown(), source.shown())
        return True


class LoweringTest(Shape):
    def test_the_example_of_point_23(self):
        unit = read_unit(EXAMPLE)
        self.check_unit(unit)
        for depth in (1, 2, 3, 32):
            self.assertTrue(self.check_run([unit], depth))

    def test_empty_unit_and_empty_function(self):
        self.assertEqual(lower(Unit((), ())).parts(), ((), (), ()))
        middle = self.check_unit(read_unit("use word g; word main() { }"))
        self.assertEqual((middle.words, middle.arrays, len(middle.flows)), ((), (), 1))
        self.assertTrue(self.check_run([read_unit("word main() { }")]))

    def test_words_and_arrays_in_their_order(self):
        middle = lower(read_unit("word b = 3; word u[7]; word a = -4; word t[2]; word z;"))
        self.assertEqual(middle.parts(), ((("b", 3), ("a", -4), ("z", 0)), (("u", 7), ("t", 2)), ()))

    def test_uses_are_no_part_of_the_middle(self):
        middle = self.check_unit(read_unit(
            "use word g; use word t[3]; use word p(1); word f(word a) { g = t[a]; t[g] = p(a); p(g); }"))
        self.assertEqual((middle.words, middle.arrays, [flow.name for flow in middle.flows]), ((), (), ["f"]))

    def test_full_functions(self):
        heaviest = 0
        for filling in FILLINGS:
            unit = full(filling)
            heaviest = max(heaviest, weight(unit.declarations[4]))
            check_program([unit])
            self.check_unit(unit)
            self.check_run([unit])
        self.assertEqual(heaviest, 200)

    def test_full_mixed_functions(self):
        chance = random.Random(11)
        for _ in range(60):
            body, left = [], 200
            while left > 0:
                filling = chance.choice(FILLINGS)
                left -= nodes(read_unit(BEGIN + filling + " }").declarations[-1][4][0])
                if left >= 0:
                    body.append(filling)
            unit = read_unit(BEGIN + " ".join(body) + " } word main() { q(1, 0, 2, 3, 4, 5); }")
            self.check_unit(unit)
            self.check_run([unit])

    def test_statements_that_nothing_leads_to_keep_their_numbers(self):
        unit = read_unit("""word main() { if (0) { return 1; while (1) { tell 2; if (3) { break; } } tell 4; }
                            while (1) { if (1) { break; tell 5; } else { continue; tell 6; if (1) { } } tell 7; }
                            tell 8; tell 1 / 0; }""")
        self.check_unit(unit)
        self.assertTrue(self.check_run([unit]))
        self.assertEqual(run_source([unit]).told, ((8, (("main", 15),)),))

    def test_loops_that_do_not_come_back(self):
        for body in ("while (x) { return 1; }", "while (1) { break; }", "while (x < 3) { x = x + 1; if (x) { continue; } return x; }",
                     "while (x < 3) { x = x + 1; if (x == 2) { continue; } while (1) { break; } break; }",
                     "while (x < 4) { x = x + 1; while (x == 2) { x = x + 1; if (x) { continue; } } if (x > 9) { return 3; } else { continue; } }",
                     "while (1) { while (1) { if (x) { break; } x = 1; continue; } return 7; }"):
            unit = read_unit("word main() { word x; " + body + " tell x; }")
            self.check_unit(unit)
            self.assertTrue(self.check_run([unit]))

    def test_locals_are_read_before_a_call_changes_outer_ones(self):
        unit = read_unit("""word g; word t[2]; word f(word n) { g = g + n; t[1] = g; return g; }
                            word main() { word x; x = 3; tell g + f(1) * g; tell t[1] + f(x) + t[1]; tell x - f(x) - x;
                            t[g > 6] = f(-6); tell t[1]; g = g + f(2); tell g; }""")
        self.assertTrue(self.check_run([unit]))

    def test_traps_in_their_order(self):
        for body in ("t[5] = 1 / 0;", "t[1 / 0] = f(1);", "tell t[f(9)];", "tell f(1) / g;", "t[2] = f(2);", "g = t[2] / 0;",
                     "tell g && 1 / 0; tell g || t[7];", "f(t[3]);", "f(1 / g);", "while (1 / g) { }", "if (t[-1]) { }"):
            unit = read_unit("word g; word t[2]; word f(word n) { tell n; return n; } word main() { " + body + " }")
            for depth in (1, 2):
                self.assertTrue(self.check_run([unit], depth))

    def test_rounds_stop_both_at_the_same_place(self):
        unit = read_unit("word main() { word i; while (1) { tell i; i = i + 1; while (i mod 3) { i = i + 1; tell 100; } } }")
        for rounds in range(9):
            self.assertTrue(self.check_run([unit], rounds=rounds))

    def test_deep_calls(self):
        unit = read_unit("word f(word n) { tell n; if (n) { return f(n - 1) + 1; } return 0; } word main() { return f(150); }")
        for depth in (1, 2, 151, 152, 1000):
            self.assertTrue(self.check_run([unit], depth))


class DrawnTest(Shape):
    def test_drawn_programs(self):
        done = 0
        for seed in range(250):
            unit = Unit((), drawn_declarations(seed, 4, 90))
            self.check_unit(unit)
            done += sum([self.check_run([unit], depth) for depth in (1, 2, 6)])
        self.assertGreater(done, 600)

    def test_in_parts(self):
        for seed in range(120):
            unit = Unit((), drawn_declarations(seed, 4, 60))
            parts = parted(unit, drawn_cut(seed, len(unit.declarations)))
            whole_flows = {flow.name: flow.parts() for flow in lower(unit).flows}
            for part in parts:
                for flow in self.check_unit(part).flows:
                    self.assertEqual(flow.parts(), whole_flows[flow.name])
            self.check_run(parts, 5)

    def test_a_flow_depends_on_what_occurs_in_it_only(self):
        for seed in range(80):
            declarations = drawn_declarations(seed)
            unit = Unit((), declarations)
            for at, row in enumerate(declarations):
                if row[0] != "function":
                    continue
                cut = tuple([0 if other == at else 1 for other in range(len(declarations))])
                alone = parted(unit, cut)[0]
                more = Unit((("word", "zz"), *alone.uses[::-1], ("array", "zt", 9)), (
                    ("word", "zw", 7), ("array", "zu", 2), *alone.declarations, ("function", "zf", (), (), ())))
                self.assertEqual(lower(alone).flows[0].parts(), lower(more).flow(row[1]).parts())
                self.assertEqual(lower(alone).flows[0].parts(), lower(unit).flow(row[1]).parts())


if __name__ == "__main__":
    unittest.main()
