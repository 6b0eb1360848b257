"""Point 62: listings."""

import unittest

from sameruns.lang.unitreading import read_unit
from sameruns.objects.objects import Object
from sameruns.objects.objecttext import listing
from sameruns.rows.rowtext import row_text
from sameruns.rows.coding import decode
from sameruns.whole.compiling import compiled
from tests.objectdrawing import drawn_object
from tests.secondrows import second_encode


def second_listing(made):
    """Point 62, in other words."""
    lines = []
    for name, kind, count in made.needs:
        lines.append(f"need word {name}" if kind == "word" else f"need {kind} {name} {count}")
    for name, length, initial in made.data:
        lines.append(f"array {name} {length}" if length else f"word {name} {initial}")
    ends = [start for _, start, _, _ in made.functions[1:]] + [len(made.words)]
    for (name, start, params, frame), end in zip(made.functions, ends):
        lines.append(f"function {name} {params} {frame}")
        for index in range(start, end):
            for at, kind, chain in made.marks:
                if at == index:
                    lines.append("mark " + kind + "".join([f" {function}:{number}" for function, number in chain]))
            text = row_text(decode(made.words[index]))
            for at, kind, what in made.places:
                if at == index and "(" in text:
                    text = text.replace(" 0(", f" {kind} {what}(")
                elif at == index:
                    text = text[:-1] + f"{kind} {what}"
            lines.append("  " + text)
    return lines


class ListingTest(unittest.TestCase):
    def check(self, made):
        parts = made.parts()
        found = listing(made)
        self.assertIs(type(found), list)
        self.assertEqual(found, second_listing(made))
        self.assertEqual(made.parts(), parts)
        self.assertIsNot(listing(made), found)
        return found

    def test_the_empty_object(self):
        self.assertEqual(self.check(Object((), (), (), (), (), ())), [])

    def test_each_form(self):
        rows = (("jal", 1, 0), ("lui", 5, 0), ("addi", 5, 5, 0), ("lw", 6, 5, 0), ("sw", 6, 5, 0), ("jal", 0, 0), ("ecall",), ("lw", 5, 2, -8),
                ("beq", 5, 0, 8), ("add", 5, 6, 7))
        made = Object([second_encode(row) for row in rows], (("f", 0, 2, 16), ("main", 9, 0, 4)), (("g", 0, -5), ("t", 8, 0), ("h", 0, 0)),
                      (("w", "word", 0), ("u", "array", 1000), ("k", "function", 6)),
                      ((0, "call", "k"), (1, "high", "g"), (2, "low", "g"), (3, "low", "t"), (4, "low", "u")),
                      ((0, "call", (("main", 3), ("f", 0))), (6, "tell", (("f", 199),)), (9, "divide", (("f", 0),) * 8)))
        self.assertEqual(self.check(made), [
            "need word w", "need array u 1000", "need function k 6", "word g -5", "array t 8", "word h 0", "function f 2 16",
            "mark call main:3 f:0", "  jal x1, call k", "  lui x5, high g", "  addi x5, x5, low g", "  lw x6, low t(x5)", "  sw x6, low u(x5)",
            "  jal x0, 0", "mark tell f:199", "  ecall", "  lw x5, -8(x2)", "  beq x5, x0, 8", "function main 0 4",
            "mark divide f:0 f:0 f:0 f:0 f:0 f:0 f:0 f:0", "  add x5, x6, x7"])

    def test_example_of_the_interface(self):
        made = Object((695, 115), (("main", 0, 0, 8),), (("g", 0, -1),), (), ((0, "high", "g"),), ((1, "tell", (("main", 0),)),))
        self.assertEqual(self.check(made), ["word g -1", "function main 0 8", "  lui x5, high g", "mark tell main:0", "  ecall"])

    def test_other_parts_alone(self):
        self.assertEqual(self.check(Object((), (), (("g", 0, 5),), (), (), ())), ["word g 5"])
        self.assertEqual(self.check(Object((), (), (), (("g", "word", 0),), (), ())), ["need word g"])

    def test_drawn_objects(self):
        for seed in range(300):
            self.check(drawn_object(seed))

    def test_compiled_units(self):
        unit = read_unit("use word t[9]; word g; word main() { while (g < t[1]) { g = g + t[g] / 3; tell g; } main(); }")
        for free in (0, 5, 20):
            found = self.check(compiled(unit, free=free))
            self.assertEqual(found[:3], ["need array t 9", "word g 0", "function main 0 " + found[2].split()[-1]])
            for line in ("  jal x1, call main", "mark call main:3", "mark depth main:3", "mark tell main:2", "mark index main:1"):
                self.assertIn(line, found)


if __name__ == "__main__":
    unittest.main()
