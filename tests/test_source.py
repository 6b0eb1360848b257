"""Points 6, 7, 8 and 20 to 23: the run of the source."""

import random
import unittest

from sameruns.basics.errors import BadDepth
from sameruns.basics.runs import Run
from sameruns.lang.unitreading import read_unit
from sameruns.lang.units import Unit, parted
from sameruns.source.source import Source, run_source
from tests.drawing import drawn_cut, drawn_declarations
from tests.oracle import Oracle

EXAMPLE = """
word f(word n) {
  if (n == 0) {
    return 1 / n;
  }
  tell n;
  return f(n - 1);
}
word main() {
  return f(1);
}
"""


def run(text, **limits):
    """All that a run has."""
    found = run_source([read_unit(text)], **limits)
    return (found.told, found.end, found.steps, found.rounds)


def main(body, **limits):
    """The run of a main with this body, told words without their stories."""
    told, end, steps, rounds = run("word g; word t[3]; word z() { return 0; } word main() { " + body + " }", **limits)
    return ([row[0] for row in told], end, steps, rounds)


class StepsTest(unittest.TestCase):
    def test_example(self):
        told = ((1, (("main", 0), ("f", 2))),)
        end = ("trap", "divide", (("main", 0), ("f", 3), ("f", 1)))
        for depth in (3, 32, 1000):
            self.assertEqual(run(EXAMPLE, depth=depth), (told, end, 25, 0))
        self.assertEqual(run(EXAMPLE), (told, end, 25, 0))
        self.assertEqual(run(EXAMPLE, depth=2), (told, ("trap", "depth", (("main", 0), ("f", 3))), 16, 0))
        self.assertEqual(run(EXAMPLE, depth=1), ((), ("trap", "depth", (("main", 0),)), 3, 0))
        self.assertEqual(run(EXAMPLE, steps=10), ((), None, 10, 0))
        self.assertEqual(run(EXAMPLE, steps=11), (told, None, 11, 0))
        self.assertEqual(run(EXAMPLE, steps=24), (told, None, 24, 0))
        self.assertEqual(run(EXAMPLE, steps=25), (told, end, 25, 0))

    def test_an_empty_main_leaves(self):
        self.assertEqual(main(""), ([], ("end", 0), 1, 0))

    def test_simple_statements(self):
        for body, told, word, steps in (
            ("return 7;", [], 7, 3), ("tell 5;", [5], 0, 4), ("g = 4; return g;", [], 4, 6),
            ("t[1] = 6; return t[1];", [], 6, 8), ("tell g;", [0], 0, 4), ("tell t[2];", [0], 0, 5),
            ("z();", [], 0, 7), ("return z();", [], 0, 6), ("return -5;", [], -5, 4), ("return ~5;", [], -6, 4),
            ("return !5;", [], 0, 4), ("return !0;", [], 1, 4), ("return --5;", [], 5, 5),
            ("return 1 + 2 * 3;", [], 7, 7), ("return (1 + 2) * 3;", [], 9, 7), ("return 2147483647 + 1;", [], -(2 ** 31), 5),
            ("return 7; tell 1;", [], 7, 3),
        ):
            self.assertEqual(main(body), (told, ("end", word), steps, 0), body)

    def test_binary_operators(self):
        for text, word in (
            ("7 + 5", 12), ("7 - 9", -2), ("7 * 3", 21), ("-7 / 2", -3), ("-7 mod 2", -1), ("12 & 10", 8), ("12 | 10", 14),
            ("12 ^ 10", 6), ("1 << 33", 2), ("-16 >> 2", -4), ("-1 >> 31", -1), ("3 < 4", 1), ("4 < 4", 0), ("4 <= 4", 1),
            ("5 <= 4", 0), ("4 == 4", 1), ("4 != 4", 0), ("5 > 4", 1), ("4 > 4", 0), ("4 > 5", 0), ("4 >= 4", 1),
            ("3 >= 4", 0), ("5 >= 4", 1), ("(-2147483647 - 1) / -1", -(2 ** 31)), ("(-2147483647 - 1) mod -1", 0),
        ):
            end = main("return " + text + ";")[1]
            self.assertEqual(end, ("end", word), text)
            self.assertIs(type(end[1]), int)

    def test_shortened_operators(self):
        for text, word, steps in (
            ("0 && 5", 0, 4), ("3 && 5", 1, 6), ("3 && 0", 0, 6), ("0 || 5", 1, 6), ("0 || 0", 0, 6), ("3 || 5", 1, 4),
            ("0 && 1 / 0", 0, 4), ("7 || 1 / 0", 1, 4), ("0 && 1 || 4", 1, 7), ("1 || 0 && 1 / 0", 1, 4),
            ("1 && (0 || -3)", 1, 10),
        ):
            self.assertEqual(main("return " + text + ";"), ([], ("end", word), steps, 0), text)
        for text in ("1 && 1 / 0", "0 || 1 / 0", "(1 / 0) && 0", "(1 / 0) || 1"):
            self.assertEqual(main("return " + text + ";")[1][:2], ("trap", "divide"), text)

    def test_choices(self):
        for body, told, steps in (
            ("if (1) { tell 2; } else { tell 3; } tell 4;", [2, 4], 10), ("if (0) { tell 2; } else { tell 3; } tell 4;", [3, 4], 10),
            ("if (0) { tell 2; } tell 4;", [4], 7), ("if (-1) { } tell 4;", [4], 8), ("if (1) { if (0) { } else { tell 9; } }", [9], 10),
        ):
            self.assertEqual(main(body), (told, ("end", 0), steps, 0), body)

    def test_loops(self):
        self.assertEqual(main("while (0) { tell 1; } tell 2;"), ([2], ("end", 0), 7, 0))
        # begin; three times g, 3, <, look; twice begin, g, 1, +, set, round and once break instead
        self.assertEqual(main("while (g < 2) { g = g + 1; }"), ([], ("end", 0), 1 + 3 * 4 + 2 * 6 + 1, 2))
        self.assertEqual(main("while (1) { break; } tell 3;"), ([3], ("end", 0), 8, 0))
        self.assertEqual(main("while (g < 2) { g = g + 1; continue; tell 8; }"), ([], ("end", 0), 1 + 12 + 2 * 7 + 1, 2))

    def test_break_and_continue_in_nested_loops(self):
        body = """
        word i; word j;
        while (i < 4) {
          i = i + 1;
          j = 0;
          if (i == 2) { continue; }
          while (1) {
            j = j + 1;
            if (j == 2) { continue; }
            if (j > 3) { break; }
            tell i * 10 + j;
          }
          if (i == 3) { break; }
          tell 100 + i;
        }
        tell i; tell j;
        """
        told, end, _, rounds = main(body)
        self.assertEqual(told, [11, 13, 101, 31, 33, 3, 4])
        self.assertEqual((end, rounds), (("end", 0), 3 + 1 + 3 + 1))

    def test_return_inside_of_loops(self):
        self.assertEqual(main("while (1) { while (1) { g = g + 1; if (g == 3) { return g * 2; } } }")[1::2], (("end", 6), 2))

    def test_locals_begin_with_zero_in_each_call(self):
        text = """word f(word n) { word x; word r[2]; tell x + r[n]; x = 5; r[n] = 7; if (n) { f(0); } tell x + r[n]; }
                  word main() { f(1); f(0); }"""
        self.assertEqual([row[0] for row in run(text)[0]], [0, 0, 12, 12, 0, 12])

    def test_globals_stay(self):
        text = "word g = -5; word t[2]; word f() { g = g + 1; t[1] = g; } word main() { f(); f(); tell g; tell t[1]; tell t[0]; }"
        self.assertEqual([row[0] for row in run(text)[0]], [-3, -3, 0])

    def test_inner_names_hide_outer_ones(self):
        text = """word g = 1; word t[1]; word f(word g) { word t; g = g + 1; t = 9; return g + t; }
                  word main() { t[0] = 4; tell f(10); tell g; tell t[0]; }"""
        self.assertEqual([row[0] for row in run(text)[0]], [20, 1, 4])

    def test_operands_and_arguments_from_left_to_right(self):
        text = """word f(word n) { tell n; return n; } word t[9]; word h(word a, word b, word c) { return a * 100 + b * 10 + c; }
                  word main() { t[f(1)] = f(2) + f(3); tell h(f(4), f(5), f(6)); tell f(8) > f(7); }"""
        self.assertEqual([row[0] for row in run(text)[0]], [1, 2, 3, 4, 5, 6, 456, 8, 7, 1])

    def test_main_may_be_called(self):
        text = "word g; word main() { g = g + 1; if (g < 3) { tell main() + g; } return g * 10; }"
        told, end, _, _ = run(text)
        self.assertEqual([row[0] for row in told], [33, 33])
        self.assertEqual(told[0][1], (("main", 2), ("main", 2)))
        self.assertEqual(end, ("end", 30))

    def test_stories(self):
        text = """word f(word n) { tell n; while (n) { n = n - 1; tell n; } tell g(n); }
                  word g(word n) { if (1) { } tell 50; return 60; }
                  word main() { word x; if (x == 0) { f(1); } }"""
        begin = (("main", 1),)
        self.assertEqual(run(text)[0], (
            (1, (*begin, ("f", 0))), (0, (*begin, ("f", 3))), (50, (*begin, ("f", 4), ("g", 1))), (60, (*begin, ("f", 4)))))

    def test_the_loop_return_gives_the_number_back(self):
        text = "word f(word n) { tell n; return n < 2; } word main() { word i; while (f(i)) { i = i + 1; } tell 9; }"
        self.assertEqual([row[1][0] for row in run(text)[0]], [("main", 0)] * 3 + [("main", 2)])


class TrapTest(unittest.TestCase):
    def test_divide(self):
        for sign in ("/", "mod"):
            self.assertEqual(main("tell 4; tell 5 " + sign + " g;"), ([4], ("trap", "divide", (("main", 1),)), 7, 0))
            self.assertEqual(main("return 0 " + sign + " 1;")[1], ("end", 0))

    def test_index(self):
        for index, good in (("0", True), ("2", True), ("3", False), ("-1", False), ("2147483647", False)):
            end = ("end", 0) if good else ("trap", "index", (("main", 0),))
            self.assertEqual(main("return t[" + index + "];")[1], end)
            self.assertEqual(main("t[" + index + "] = 1;")[1], end)
            self.assertEqual(main("word r[3]; r[" + index + "] = 1;")[1], end)
            self.assertEqual(main("word r[3]; return r[" + index + "];")[1], end)

    def test_the_index_of_a_put_is_looked_at_last(self):
        self.assertEqual(main("t[3] = 1 / 0;")[1], ("trap", "divide", (("main", 0),)))
        self.assertEqual(main("t[1 / 0] = t[3];")[1], ("trap", "divide", (("main", 0),)))
        self.assertEqual(main("t[t[3]] = 1 / 0;")[1], ("trap", "index", (("main", 0),)))
        self.assertEqual(main("t[5] = 1;"), ([], ("trap", "index", (("main", 0),)), 4, 0))

    def test_which_of_two_comes_first(self):
        for text, kind in (("t[7] + 1 / 0", "index"), ("1 / 0 + t[7]", "divide"), ("t[1 / 0]", "divide"), ("1 / t[9]", "index"),
                           ("t[3] / 0", "index"), ("z() / t[3]", "index"), ("(1 / 0) / t[3]", "divide")):
            self.assertEqual(main("return " + text + ";")[1][1], kind, text)
        text = "word f(word n) { return n; } word main() { return f(1 / 0); }"
        self.assertEqual(run(text, depth=1)[1][1], "divide")

    def test_inside_of_open_calls(self):
        text = "word t[2]; word f(word n) { if (n) { tell 1; return f(n - 1) + 1; } return t[n - 1]; } word main() { tell 0; tell f(2); }"
        self.assertEqual(run(text)[1], ("trap", "index", (("main", 1), ("f", 2), ("f", 2), ("f", 3))))

    def test_depth(self):
        text = "word f(word n) { if (n) { return f(n - 1); } return 5; } word main() { return f(6); }"
        self.assertEqual(run(text, depth=8)[1], ("end", 5))
        self.assertEqual(run(text, depth=7)[1], ("trap", "depth", (("main", 0),) + (("f", 1),) * 6))
        self.assertEqual(run(text, depth=2)[1], ("trap", "depth", (("main", 0), ("f", 1))))
        self.assertEqual(run(text, depth=1)[1], ("trap", "depth", (("main", 0),)))
        endless = "word f() { f(); } word main() { f(); }"
        for depth in (1, 2, 32, 999, 1000):
            told, end, steps, rounds = run(endless, depth=depth)
            self.assertEqual(end, ("trap", "depth", (("main", 0),) + (("f", 0),) * (depth - 1)))
            self.assertEqual((told, steps, rounds), ((), 2 * depth, 0))

    def test_deep_calls_that_return(self):
        text = "word f(word n) { if (n) { return f(n - 1) + 1; } tell 7; return 0; } word main() { return f(998); }"
        found = run_source([read_unit(text)], depth=1000)
        self.assertEqual(found.end, ("end", 998))
        self.assertEqual(len(found.told[0][1]), 1000)

    def test_refused_depths(self):
        unit = read_unit("word main() { }")
        for depth in (0, 1001, -1, 2 ** 40, -(2 ** 40)):
            for call in (Source, run_source):
                with self.assertRaises(BadDepth) as caught:
                    call([unit], depth=depth)
                self.assertEqual(caught.exception.depth, depth)
        for depth in (1, 2, 32, 1000):
            self.assertEqual(run_source([unit], depth=depth).end, ("end", 0))

    def test_a_trap_changes_nothing(self):
        source = Source([read_unit("word t[2]; word main() { t[0] = 1; t[2] = 5; }")])
        source.go()
        source.go()
        self.assertEqual((source.run().steps, source.run().end[0]), (8, "trap"))


class LimitsTest(unittest.TestCase):
    loop = "word main() { word i; while (i < 5) { tell i; i = i + 1; } tell 99; return i; }"

    def state(self, source):
        found = source.run()
        return ([row[0] for row in found.told], found.end, found.steps, found.rounds)

    def test_nothing_is_done_at_first(self):
        found = Source([read_unit(self.loop)]).run()
        self.assertIsInstance(found, Run)
        self.assertEqual((found.told, found.end, found.steps, found.rounds), ((), None, 0, 0))

    def test_limits_of_zero(self):
        source = Source([read_unit(self.loop)])
        self.assertIsNone(source.go(steps=0))
        self.assertEqual(self.state(source), ([], None, 0, 0))
        source.go(rounds=0, steps=0)
        self.assertEqual(self.state(source), ([], None, 0, 0))
        source.go(rounds=0)
        self.assertEqual(self.state(source), ([0], None, 1 + 4 + 3 + 5, 0))
        source.go(rounds=0)
        self.assertEqual(self.state(source), ([0], None, 13, 0))

    def test_without_loops_the_limit_of_rounds_stops_nothing(self):
        self.assertEqual(main("tell 1;", rounds=0), ([1], ("end", 0), 4, 0))

    def test_limits_that_are_passed_already(self):
        source = Source([read_unit(self.loop)])
        source.go(rounds=2, steps=40)
        before = self.state(source)
        self.assertEqual(before, ([0, 1, 2], None, 13 * 3, 2))
        source.go(rounds=1, steps=30)
        source.go(rounds=1, steps=39)
        source.go(rounds=1, steps=1000)
        self.assertEqual(self.state(source), before)
        # Between two loop returns the run goes on, also under a limit that it has passed.
        source.go(rounds=3, steps=41)
        source.go(rounds=1, steps=1000)
        self.assertEqual(self.state(source), ([0, 1, 2, 3], None, 13 * 4, 3))
        source.go(rounds=10)
        self.assertEqual(self.state(source), ([0, 1, 2, 3, 4, 99], ("end", 5), 13 * 5 + 5 + 3 + 3, 5))

    def test_behind_the_end(self):
        source = Source([read_unit(self.loop)])
        source.go()
        before = self.state(source)
        source.go(rounds=10000, steps=1000000)
        self.assertEqual(self.state(source), before)

    def test_the_usual_limits(self):
        endless = [read_unit("word main() { while (1) { } }")]
        found = run_source(endless)
        self.assertEqual((found.end, found.steps, found.rounds), (None, 1 + 1000 * 3 + 2, 1000))
        source = Source(endless)
        source.go()
        self.assertEqual(self.state(source), ([], None, 1 + 1000 * 3 + 2, 1000))
        found = run_source(endless, rounds=10000, steps=1000000)
        self.assertEqual((found.end, found.steps, found.rounds), (None, 1 + 10000 * 3 + 2, 10000))
        long = [read_unit("word main() { while (1) { " + "tell 1; " * 40 + "} }")]
        found = run_source(long)
        self.assertEqual((found.end, found.steps), (None, 100000))
        source = Source(long)
        source.go()
        self.assertEqual((source.run().end, source.run().steps), (None, 100000))

    def test_the_usual_depth(self):
        units = [read_unit("word f() { f(); } word main() { f(); }")]
        end = ("trap", "depth", (("main", 0),) + (("f", 0),) * 31)
        self.assertEqual(run_source(units).end, end)
        source = Source(units)
        source.go()
        self.assertEqual(source.run().end, end)

    def test_every_limit_of_steps(self):
        for steps in range(80):
            source = Source([read_unit(self.loop)])
            source.go(steps=steps)
            self.assertEqual(source.run().steps, min(steps, 76))
            self.assertEqual(source.run().end, ("end", 5) if steps >= 76 else None)

    def test_two_runs_by_turns(self):
        unit = read_unit(self.loop)
        units = [unit]
        one, two = Source(units), Source(units, depth=1)
        units.clear()
        for steps in range(0, 90, 3):
            one.go(steps=steps)
            two.go(steps=steps, rounds=steps // 20)
            self.assertEqual(one.run().steps, min(steps, 76))
            self.assertLessEqual(two.run().rounds, steps // 20)
        self.assertEqual(self.state(two), ([0, 1, 2, 3, 4], None, 13 * 5, 4))
        two.go()
        self.assertEqual(self.state(one), self.state(two))
        self.assertEqual(self.state(one)[1], ("end", 5))

    def test_a_run_that_was_taken_stays(self):
        source = Source([read_unit(self.loop)])
        source.go(rounds=1)
        early = source.run()
        before = (early.told, early.end, early.steps, early.rounds)
        source.go()
        self.assertEqual((early.told, early.end, early.steps, early.rounds), before)
        self.assertEqual(len(source.run().told), 6)

    def test_initial_words_are_new_for_each_run(self):
        units = [read_unit("word g = 3; word t[1]; word main() { g = g + 1; t[0] = t[0] + 1; tell g; tell t[0]; }")]
        first = run_source(units)
        self.assertEqual(run_source(units).told, first.told)
        self.assertEqual([row[0] for row in first.told], [4, 1])


class DrawnProgramsTest(unittest.TestCase):
    def test_as_another_reading_of_the_document(self):
        ends = set()
        for seed in range(400):
            unit = Unit((), drawn_declarations(seed, 4, 70))
            for depth in (1, 2, 9):
                oracle = Oracle([unit], depth)
                oracle.go(15, 1500)
                found = run_source([unit], depth=depth, rounds=15, steps=1500)
                self.assertEqual((found.told, found.end, found.steps, found.rounds), oracle.shown(), seed)
                ends.add(found.end[:2] if found.end and found.end[0] == "trap" else bool(found.end))
        self.assertEqual(len(ends), 5)

    def test_drives_in_several_calls(self):
        chance = random.Random(8)
        for seed in range(120):
            unit = Unit((), drawn_declarations(seed))
            source, oracle = Source([unit], depth=7), Oracle([unit], 7)
            for _ in range(12):
                rounds, steps = chance.randint(0, 12), chance.randint(0, 200)
                source.go(rounds=rounds, steps=steps)
                oracle.go(rounds, steps)
                found = source.run()
                self.assertEqual((found.told, found.end, found.steps, found.rounds), oracle.shown(), seed)

    def test_in_one_unit_and_in_parts(self):
        for seed in range(150):
            unit = Unit((), drawn_declarations(seed))
            one = run_source([unit], rounds=9, steps=900)
            parts = parted(unit, drawn_cut(seed, len(unit.declarations)))
            two = run_source(parts, rounds=9, steps=900)
            self.assertEqual((one.shown(), one.steps), (two.shown(), two.steps))


if __name__ == "__main__":
    unittest.main()
