"""Point 14: the written text."""

import re
import unittest

from sameruns.lang.unitreading import read_unit
from sameruns.lang.units import Unit, parted
from sameruns.lang.writing import write_expression, write_unit
from tests.drawing import drawn_cut, drawn_declarations

A, B, C = ("var", "a"), ("var", "b"), ("var", "c")
GROUPS = (("*", "/", "mod"), ("+", "-"), ("<<", ">>"), ("<", "<=", ">", ">="), ("==", "!="), ("&",), ("^",),
          ("|",), ("&&",), ("||",))

WHOLE = """\
use word g;
use word t[4];
use word f(2);
word h;
word i = 5;
word j = -5;
word k[1000];
word e() {
}
word l(word a, word b) {
  word x;
  word r[3];
  x = a + 1;
  r[x] = t[b];
  f(1, -x);
  e();
  tell f(a, b);
  while (x) {
    if (a && b) {
      break;
    }
    if (!a) {
      continue;
    } else {
      x = (x - 1) * 2;
    }
    while (1) {
    }
  }
  if (0) {
  } else {
    tell ~0;
    return 2147483647;
  }
  return x mod 7;
}
"""


def group(sign):
    return [at for at, row in enumerate(GROUPS) if sign in row][0]


class WriteUnitTest(unittest.TestCase):
    def test_whole_text(self):
        self.assertEqual(write_unit(read_unit(WHOLE)), WHOLE)

    def test_from_another_form(self):
        text = WHOLE.replace("\n", " ").replace("a + 1", "(a)+(1)").replace("!a", "!((a))").replace("h;", "h=0;")
        self.assertEqual(write_unit(read_unit(text)), WHOLE)

    def test_empty_unit(self):
        self.assertEqual(write_unit(Unit((), ())), "")

    def test_an_empty_no_is_not_written(self):
        self.assertEqual(write_unit(read_unit("word f() { if (1) { } else { } }")),
                         "word f() {\n  if (1) {\n  }\n}\n")

    def test_initial_words(self):
        rows = (("word", "a", 0), ("word", "b", 2147483647), ("word", "c", -2147483647), ("word", "d", -1))
        self.assertEqual(write_unit(Unit((), rows)),
                         "word a;\nword b = 2147483647;\nword c = -2147483647;\nword d = -1;\n")

    def test_drawn_units_are_read_back(self):
        for seed in range(300):
            unit = Unit((), drawn_declarations(seed, 3, 90))
            for part in parted(unit, drawn_cut(seed, len(unit.declarations))):
                text = write_unit(part)
                again = read_unit(text)
                self.assertEqual(again.parts(), part.parts())
                self.assertEqual(write_unit(again), text)


class WriteExpressionTest(unittest.TestCase):
    def test_example(self):
        tree = ("bin", "-", ("un", "-", ("bin", "+", A, ("num", 1))), ("bin", "-", ("num", 2), ("num", 3)))
        self.assertEqual(write_expression(tree), "-(a + 1) - (2 - 3)")

    def test_each_kind(self):
        rows = (
            (("num", 0), "0"), (A, "a"), (("item", "t", ("bin", "+", A, B)), "t[a + b]"), (("call", "f", ()), "f()"),
            (("call", "f", (A, ("bin", "||", B, C), ("num", 3))), "f(a, b || c, 3)"),
            (("un", "-", A), "-a"), (("un", "-", ("un", "-", A)), "--a"), (("un", "!", ("item", "t", A)), "!t[a]"),
            (("un", "~", ("call", "f", ())), "~f()"), (("un", "!", ("bin", "*", A, B)), "!(a * b)"),
            (("bin", "*", ("un", "-", A), ("un", "~", B)), "-a * ~b"), (("bin", "mod", A, B), "a mod b"),
            (("item", "t", ("item", "t", A)), "t[t[a]]"), (("un", "-", ("num", 5)), "-5"),
        )
        for tree, text in rows:
            self.assertEqual(write_expression(tree), text)

    def test_brackets_of_binary_operands(self):
        signs = [sign for row in GROUPS for sign in row]
        for outer in signs:
            for inner in signs:
                looser = group(inner) > group(outer)
                same = group(inner) == group(outer)
                left = write_expression(("bin", outer, ("bin", inner, A, B), C))
                right = write_expression(("bin", outer, A, ("bin", inner, B, C)))
                self.assertEqual(left, f"(a {inner} b) {outer} c" if looser else f"a {inner} b {outer} c")
                self.assertEqual(right, f"a {outer} (b {inner} c)" if looser or same else f"a {outer} b {inner} c")

    def test_no_pair_of_brackets_can_be_left_out(self):
        count = 0
        for seed in range(120):
            for declaration in drawn_declarations(seed, 2, 40):
                if declaration[0] != "function":
                    continue
                text = write_unit(Unit((), (declaration,)))
                tree = read_unit(text).parts()
                for first, last in pairs(text):
                    count += 1
                    without = text[:first] + " " + text[first + 1:last] + " " + text[last + 1:]
                    try:
                        self.assertNotEqual(read_unit(without).parts(), tree, text)
                    except ValueError:
                        pass
        self.assertGreater(count, 500)

    def test_spaces(self):
        for seed in range(60):
            for row in write_unit(Unit((), drawn_declarations(seed))).split("\n"):
                self.assertNotRegex(row.strip(), r"  |\( | \)|\[ | \]| ;| ,|,\S|[~!] ")
                self.assertEqual(len(re.match(" *", row)[0]) % 2, 0)


def pairs(text):
    """The places of the brackets of each pair of round brackets."""
    waiting, found = [], []
    for at, mark in enumerate(text):
        if mark == "(":
            waiting.append(at)
        elif mark == ")":
            found.append((waiting.pop(), at))
    return found


if __name__ == "__main__":
    unittest.main()
