"""Point 63: reading listings, with points 59 and 62."""

import random
import re
import unittest

from sameruns.basics.errors import BadLine
from sameruns.lang.units import Unit
from sameruns.objects.objectread import read_listing
from sameruns.objects.objects import Object
from sameruns.objects.objecttext import listing
from sameruns.papers.improving import PASSES
from sameruns.rows.rowtext import read_row
from sameruns.whole.compiling import compiled
from tests.drawing import drawn_declarations
from tests.objectdrawing import drawn_object

RESERVED = "break continue else if mod return tell use while word".split()
NUMBER = r"(0|-?[1-9][0-9]*)"


def is_name(text):
    return bool(re.fullmatch("[a-z][a-z0-9]{0,7}", text)) and text not in RESERVED


def between(text, least, greatest):
    return bool(re.fullmatch(NUMBER, text)) and len(text) < 15 and least <= int(text) <= greatest


def line_kind(line):
    """A second reading of point 62: the kind of a line by itself, or None."""
    if line.startswith("  "):
        return "word" if is_word_line(line[2:]) else None
    parts = line.split(" ")
    if parts[0] == "need" and len(parts) in (3, 4) and is_name(parts[2]):
        if parts[1] == "word":
            return "need" if len(parts) == 3 else None
        bounds = {"array": (1, 1000), "function": (0, 6)}.get(parts[1])
        return "need" if bounds and len(parts) == 4 and between(parts[3], *bounds) else None
    if parts[0] in ("word", "array") and len(parts) == 3 and is_name(parts[1]):
        return "datum" if between(parts[2], *((-2 ** 31, 2 ** 31 - 1) if parts[0] == "word" else (1, 1000))) else None
    if parts[0] == "function" and len(parts) == 4 and is_name(parts[1]) and between(parts[2], 0, 6):
        return "function" if between(parts[3], 4, 2044) and int(parts[3]) % 4 == 0 else None
    if parts[0] == "mark" and 3 <= len(parts) <= 10 and parts[1] in ("tell", "call", "divide", "index", "depth"):
        places = [re.fullmatch("([^:]*):([^:]*)", part) for part in parts[2:]]
        return "mark" if all(place and is_name(place[1]) and between(place[2], 0, 199) for place in places) else None
    return None


def is_word_line(text):
    if read_row(text) is not None:
        return True
    for form in (r"(jal x\d+, )call (\w+)()", r"(lui x\d+, )high (\w+)()", r"(addi x\d+, x\d+, )low (\w+)()", r"([ls]w x\d+, )low (\w+)(\(x\d+\))"):
        found = re.fullmatch(form, text)
        if found:
            return is_name(found[2]) and read_row(found[1] + "0" + found[3]) is not None
    return False


def wrong_line(lines):
    """The number of the line that is refused, or None."""
    kinds, needs = ["need"], []
    follow = {"need": ("need", "datum", "function"), "datum": ("datum", "function"), "function": ("mark", "word"), "mark": ("word",),
              "word": ("mark", "word", "function")}
    for number, line in enumerate(lines, 1):
        kind = line_kind(line)
        if kind not in follow[kinds[-1]] or (kind == "need" and line in needs):
            return number
        needs += [line] if kind == "need" else []
        kinds.append(kind)
    return len(lines) + 1 if kinds[-1] in ("function", "mark") else None


GOOD = ["need word w", "need array t 8", "need function f 2", "word g -5", "array r 1000", "function main 0 16", "  jal x1, call f",
        "  lui x5, high g", "mark index main:3 f:0", "  addi x5, x5, low g", "  lw x6, low g(x5)", "mark call a:0 b:1 c:2 d:3 e:4 f:5 g:6 h:199",
        "  sw x6, low g(x5)", "  jal x0, -8", "function f 6 2044", "  ecall"]


class ReadListingTest(unittest.TestCase):
    def refuse(self, lines, number):
        before = list(lines)
        with self.assertRaises(BadLine) as caught:
            read_listing(lines)
        self.assertEqual(caught.exception.number, number, lines)
        self.assertEqual(lines, before)

    def check(self, lines):
        """Compare with the second reading."""
        wrong = wrong_line(lines)
        if wrong is not None:
            self.refuse(lines, wrong)
            return False
        before = list(lines)
        made = read_listing(lines)
        self.assertIsInstance(made, Object)
        self.assertEqual(listing(made), lines)
        self.assertEqual(lines, before)
        return True

    def test_examples_of_the_interface(self):
        made = read_listing(["word g -1", "function main 0 8", "  lui x5, high g", "mark tell main:0", "  ecall"])
        self.assertEqual(made.parts(), ((695, 115), (("main", 0, 0, 8),), (("g", 0, -1),), (), ((0, "high", "g"),), ((1, "tell", (("main", 0),)),)))
        self.refuse(["function main 0 8", "  ecall", "word g -1"], 3)

    def test_the_empty_list(self):
        self.assertEqual(read_listing([]).parts(), ((), (), (), (), (), ()))

    def test_each_form(self):
        self.assertTrue(self.check(GOOD))
        made = read_listing(GOOD)
        self.assertEqual(made.needs, (("w", "word", 0), ("t", "array", 8), ("f", "function", 2)))
        self.assertEqual(made.data, (("g", 0, -5), ("r", 1000, 0)))
        self.assertEqual(made.functions, (("main", 0, 0, 16), ("f", 6, 6, 2044)))
        self.assertEqual(made.places, ((0, "call", "f"), (1, "high", "g"), (2, "low", "g"), (3, "low", "g"), (4, "low", "g")))
        self.assertEqual([mark[:2] for mark in made.marks], [(2, "index"), (4, "call")])

    def test_drawn_objects(self):
        for seed in range(400):
            made = drawn_object(seed)
            lines = listing(made)
            self.assertEqual(read_listing(lines).parts(), made.parts())
            self.check(lines)

    def test_compiled_units(self):
        for seed in range(40):
            chance = random.Random(seed)
            made = compiled(Unit((), drawn_declarations(seed, 3, 60)), *[chance.choice(PASSES) for _ in range(3)], free=chance.randint(0, 20))
            self.assertEqual(read_listing(listing(made)).parts(), made.parts())

    def test_what_need_not_be(self):
        # Definitions may be equal, what a place names may be nothing, and a mark may stand anywhere.
        for lines in (
            ["word g 1", "word g 1", "array g 5", "function g 0 4", "  ecall", "function g 0 4", "  ecall"],
            ["need word g", "need array g 1", "need array g 2", "need function g 0", "word g 0"],
            ["function f 0 4", "  jal x31, call f", "  lui x0, high nowhere", "  addi x0, x0, low f", "  jal x9, call zz"],
            ["function f 0 4", *[line for kind in ("tell", "call", "divide", "index", "depth") for line in (f"mark {kind} q:7", "  add x1, x2, x3")]],
        ):
            self.assertTrue(self.check(lines), lines)

    def test_lines_with_one_thing_changed(self):
        """Each line of a good listing with one character taken out, put in or exchanged."""
        read, refused = 0, 0
        for at, line in enumerate(GOOD):
            others = [line[:k] + line[k + 1:] for k in range(len(line))]
            others += [line[:k] + mark + line[k:] for k in range(len(line) + 1) for mark in " -0a9:x,(\n"]
            others += [line[:k] + mark + line[k + 1:] for k in range(len(line)) for mark in " -019aX:"]
            for other in others:
                if self.check([*GOOD[:at], other, *GOOD[at + 1:]]):
                    read += 1
                else:
                    refused += 1
        self.assertGreater(read, 300)
        self.assertGreater(refused, 4500)

    def test_names(self):
        for name in ("a", "abcdefgh", "z0000000", "main", "x1", "call", "high", "low", "need", "mark", "function", "array", "add", "ecall"):
            for line in ("need word {}", "need array {} 8", "need function {} 2", "word {} 1", "array {} 8"):
                self.assertTrue(self.check([line.format(name)]), name)
            self.assertTrue(self.check([f"function {name} 1 8", f"  jal x1, call {name}", f"mark call {name}:5", f"  lw x1, low {name}(x2)"]))
        for name in ("abcdefghi", "1a", "A", "aB", "", "word", "while", "tell", "a_b", "a-b", "mod", "use", "9", "if"):
            for line in ("need word {}", "need array {} 8", "need function {} 2", "word {} 1", "array {} 8", "function {} 1 8"):
                self.refuse([line.format(name)], 1)
            for line in ("  jal x1, call {}", "mark call {}:5", "mark call f:1 {}:5", "  lw x1, low {}(x2)", "  lui x1, high {}", "  addi x1, x1, low {}"):
                self.refuse(["function f 0 8", line.format(name)], 2)

    def test_numbers(self):
        for form, good, wrong in (
            ("word g {}", (0, -1, 2147483647, -2147483648), (2147483648, -2147483649)), ("array g {}", (1, 1000), (0, -1, 1001)),
            ("need array g {}", (1, 1000), (0, -1, 1001)), ("need function g {}", (0, 6), (-1, 7)),
        ):
            for number in good:
                self.assertTrue(self.check([form.format(number)]))
            for number in (*wrong, "-0", "01", "+1", "", "1.0", "x", "1 ", " 1", "--1", "0x1", "1" * 5000, "1,", "00", "1e2", "-"):
                self.refuse([form.format(number)], 1)
        for params in (0, 6):
            for frame in (4, 8, 2040, 2044):
                self.assertTrue(self.check([f"function g {params} {frame}", "  ecall"]))
        for params, frame in ((-1, 8), (7, 8), (0, 0), (0, -4), (0, 2), (0, 6), (0, 2045), (0, 2048), ("00", 8), (0, "08"), ("-0", 8)):
            self.refuse([f"function g {params} {frame}", "  ecall"], 1)
        for number in (0, 1, 199):
            self.assertTrue(self.check(["function g 0 8", f"mark tell g:{number}", "  ecall"]))
        for number in (-1, 200, "-0", "01", "", "1:2", "x", "1.", "+1", "1" * 4400):
            self.refuse(["function g 0 8", f"mark tell g:{number}", "  ecall"], 2)

    def test_chains(self):
        for many in range(1, 12):
            lines = ["function g 0 8", "mark depth" + " f:3" * many, "  ecall"]
            if many <= 8:
                self.assertTrue(self.check(lines))
            else:
                self.refuse(lines, 2)

    def test_marks(self):
        for line in ("mark tell", "mark", "mark f:1", "mark end f:1", "mark tells f:1", "mark  tell f:1", "mark tell  f:1", "mark tell f:1 ", " mark tell f:1",
                     "mark tell f:1,f:2", "mark tell f 1", "mark tell f: 1", "Mark tell f:1", "mark Tell f:1", "mark tell f:1:2", "mark tell :1", "mark tell f:"):
            self.refuse(["function f 0 8", line, "  ecall"], 2)
        self.refuse(["mark tell f:1", "  ecall"], 1)
        self.refuse(["word g 1", "mark tell f:1"], 2)
        # At most one for each word.
        self.refuse(["function f 0 8", "mark tell f:1", "mark tell f:1", "  ecall"], 3)
        self.refuse(["function f 0 8", "mark tell f:1", "function g 0 8", "  ecall"], 3)
        self.refuse(["function f 0 8", "  ecall", "mark tell f:1", "word g 1"], 4)

    def test_needs_twice(self):
        for line in ("need word g", "need array g 4", "need function g 4"):
            self.refuse([line, line], 2)
            self.refuse([line, "need word z", line], 3)
        self.assertTrue(self.check(["need array g 4", "need array g 5", "need function g 4"]))

    def test_unknown_lines(self):
        for line in ("", " ", "  ", "need", "need g", "need word", "need word g 0", "need array g", "need function f", "need function f 1 2", "word g", "word g 1 2",
                     "array g", "array g 1 1", "function f 1", "function f", "function", "word", "array", "needs word g", "data g 1", "words g 1", "need  word g",
                     "need word  g", "need word g ", " need word g", "word  g 1", "word g  1", "word g 1 ", " word g 1", "array g 1 ", "function f 1 8 ", "function  f 1 8",
                     "\tword g 1".replace("\t", "    "), "word g 1\n", "\nword g 1", "word g\n1", "need words g", "use word g", "Word g 1", "ecall", "  ecall"):
            self.refuse([line], 1)
            self.refuse(["need word q", line], 2)
            self.refuse(["word q 0", line], 2)

    def test_word_lines(self):
        for line in ("ecall", " ecall", "   ecall", "  ecall ", "  Ecall", "  add x1, x2", "  jal x1, low f", "  jal x1, high f", "  lui x5, call f", "  lui x5, low f",
                     "  addi x5, x5, high f", "  addi x5, x5, call f", "  lw x5, high g(x5)", "  lw x5, call g(x5)", "  jalr x1, x1, low f", "  xori x1, x1, low f",
                     "  beq x1, x2, call f", "  auipc x1, high f", "  addi x5, x5, low", "  addi x5, x5, low ", "  addi x5, x5, low  g", "  addi x5, x5,low g",
                     "  addi x5, low g, x5", "  lw low g, x5(x5)", "  lw x5, low g(x32)", "  lw x5, low g", "  sw x5, low g (x5)", "  jal call f, 0", "  jal x1, call f ",
                     "  jal x32, call f", "  jal x1, call f, 0", "  jal x1, callf", "  jal x1, f", "  lui x5, high g h", "  lui x5, hi g", "  ", "  mark tell f:1", "  nop",
                     "  lw x5, low g(x5)(x5)", "  lw x5, low g(x5) ", "  addi x5, x5, low g(x5)", "  slli x5, x5, low g", "  ecall low g", "  add x1, x2, low g"):
            self.refuse(["function f 0 8", line, "  ecall"], 2)
        self.refuse(["  ecall"], 1)
        self.refuse(["word g 1", "  ecall"], 2)

    def test_only_a_beginning(self):
        self.refuse(["function f 0 8"], 2)
        self.refuse(["function f 0 8", "mark tell f:1"], 3)
        self.refuse(["need word g", "word h 0", "function f 0 8", "  ecall", "mark tell f:1"], 6)
        self.refuse(["function f 0 8", "  ecall", "function g 0 8"], 4)
        for many in range(len(GOOD)):
            self.check(GOOD[:many])

    def test_the_order_of_the_parts(self):
        for seed in range(300):
            chance = random.Random(seed)
            lines = listing(drawn_object(seed))
            for _ in range(3):
                other = list(lines)
                if other:
                    line = other.pop(chance.randrange(len(other)))
                    other.insert(chance.randint(0, len(other)), line)
                    self.check(other)
            chance.shuffle(lines)
            self.check(lines)

    def test_the_least_wrong_line(self):
        self.refuse(["word g 1", "word g x", "word g y"], 2)
        self.refuse(["function f 0 8", "function g 0 7", "nothing"], 2)
        self.refuse(["function f 0 8", "  ecall", "need word g", "need word g"], 3)

    def test_many_lines(self):
        lines = [f"word g{k} {k}" for k in range(1000)] + ["function f 0 8"] + ["  ecall"] * 999
        self.assertTrue(self.check(lines))
        self.refuse([f"need array t{k} 1" for k in range(1999)] + ["need array t7 1"], 2000)


if __name__ == "__main__":
    unittest.main()
