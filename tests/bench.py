"""Runs the lines of one deed beside the deed itself (point 57); for tests."""

import random

from sameruns.middle.flows import Flow, Middle
from sameruns.rows.coding import encode
from sameruns.rows.deedrows import deed_lines
from sameruns.rows.layout import Layout
from tests.secondrows import execute
from tests.walker import SmallWalker, read_by

# Global words and arrays, and their addresses, with low parts of each sign and at their bounds.
GLOBALS = {"g": 0x12FFC, "h": 0x13800, "t": 0x307FC, "u": 0x31000, "big": 0x44800}
LENGTHS = {"t": 4, "u": 1, "big": 1000}
STACK = 0x20010
EDGES = (0, 1, -1, 2, 3, 31, 32, 33, -31, -32, -33, 2046, 2047, 2048, 2049, -2047, -2048, -2049, -2050, 4095, 4096, -4096, 65535,
         2147481599, 2147481600, 2147483646, 2147483647, -2147483647, -2147483648, -2147481600, 1431655765, -1431655766)


def filled_row(row, place):
    """The row with the part of the address of its place."""
    if place is None:
        return row
    kind, name = place
    address = GLOBALS[name]
    low = (address + 2048) % 4096 - 2048
    number = (address - low) // 4096 if kind == "high" else low
    return (*row[:-1], number)


class Bench:
    """A layout with words in all cells and registers."""

    def __init__(self, test, deed, count=40, arrays=(3, 1), chance=None):
        self.test, self.deed = test, deed
        self.chance = chance or random.Random(repr(deed))
        self.flow = Flow("f", (), count, arrays, ((deed, ("jump", 0)),))
        self.layout = Layout(self.flow)
        self.lines = deed_lines(deed, self.layout)
        # The great array is there only where it is used.
        self.lengths = {name: length for name, length in LENGTHS.items() if name != "big" or "big" in deed}
        self.check_lines()

    def check_lines(self):
        """What can be seen of the lines without a run."""
        test, deed, lines = self.test, self.deed, self.lines
        test.assertIs(type(lines), list)
        test.assertEqual(deed_lines(deed, self.layout), lines)
        test.assertIsNot(deed_lines(deed, self.layout), lines)
        name = deed[1] if deed[0] in ("write", "store") else deed[2] if deed[0] in ("read", "load") else None
        stops = 0
        for at, line in enumerate(lines):
            row, place, mark = line
            test.assertIs(type(line), tuple)
            test.assertIs(type(row), tuple)
            word = encode(row)
            if place is not None:
                kind, what = place
                test.assertEqual(what, name)
                test.assertIsInstance(what, str)
                test.assertEqual(row[-1], 0)
                test.assertIn((kind, row[0]), (("high", "lui"), ("low", "addi"), ("low", "lw"), ("low", "sw")))
                test.assertEqual(word, encode((*row[:-1], 0)))
            test.assertEqual(mark is not None, row[0] == "ebreak")
            if mark is not None:
                stops += 1
                test.assertEqual(mark, ({"nonzero": "divide", "inside": "index", "depth": "depth"}[deed[0]], deed[-1]))
            test.assertNotIn(row[0], ("ecall", "jalr"))
            if row[0] == "jal":
                test.assertEqual(row[1], 0)
            if row[0] in ("jal", "beq", "bne", "blt", "bge", "bltu", "bgeu"):
                test.assertGreater(row[-1], 0)
                test.assertLessEqual(at + row[-1] // 4, len(lines))
        test.assertEqual(stops, int(deed[0] in ("nonzero", "inside", "depth")))
        kinds = [place[0] for _, place, _ in lines if place is not None]
        test.assertEqual(bool(kinds), isinstance(name, str))

    def run(self, words=None, left=5):
        """Do the lines; `words` tells the words of some variables, `left` how many functions may be opened."""
        cells, held = self.first_state(dict(words or {}), left)
        walker = self.walked(cells, held, left)
        wanted_cells, wanted_held = dict(cells), list(held)
        if walker.end is None:
            self.follow(walker, wanted_cells, wanted_held)
        at = 0
        while at < len(self.lines):
            row, place, mark = self.lines[at]
            if row[0] == "ebreak":
                break
            at = execute(filled_row(row, place), 4 * at, held, cells) // 4
        test = self.test
        if walker.end is None:
            test.assertEqual(at, len(self.lines), (self.deed, words))
        else:
            test.assertEqual(walker.end[0], "trap")
            test.assertEqual(self.lines[at][2], walker.end[1:])
        test.assertEqual(cells, wanted_cells, (self.deed, words))
        test.assertEqual(held[:5] + held[8:], wanted_held[:5] + wanted_held[8:], (self.deed, words))
        return walker.end

    def first_state(self, words, left):
        """Words in all cells and registers."""
        chance = self.chance
        held = [0] + [chance.getrandbits(32) - 2 ** 31 for _ in range(31)]
        held[2], held[4] = STACK, left
        places = [STACK + offset for offset in range(-8, self.layout.frame + 8, 4)]
        for name, address in GLOBALS.items():
            places += [address + 4 * index for index in range(-2, self.lengths.get(name, 1) + 2)]
        cells = {place: chance.getrandbits(32) - 2 ** 31 for place in places}
        for variable, word in words.items():
            if variable < 32:
                held[variable] = word
            else:
                cells[STACK + self.layout.offset(variable)] = word
        return cells, held

    def walked(self, cells, held, left):
        """A walker that has done the deed; the chain of a trap is its story."""
        walker = SmallWalker(Middle((), (), (Flow("main", (), 1, (), ((("back", 0),),)),)), depth=left + 1)
        walker.words = {name: cells[GLOBALS[name]] for name in "gh"}
        walker.arrays = {name: [cells[GLOBALS[name] + 4 * k] for k in range(length)] for name, length in self.lengths.items()}
        frame = walker.frames[0]
        frame["words"] = [held[v] if v < 32 else cells[STACK + self.layout.offset(v)] for v in range(self.flow.count)]
        frame["arrays"] = [[cells[STACK + self.layout.array_offset(number) + 4 * k] for k in range(length)]
                           for number, length in enumerate(self.flow.arrays)]
        walker.do(frame, self.deed)
        return walker

    def follow(self, walker, cells, held):
        """Put what the walker has now into cells and registers."""
        frame = walker.frames[0]
        for variable, word in enumerate(frame["words"]):
            if variable < 32:
                held[variable] = word
            else:
                cells[STACK + self.layout.offset(variable)] = word
        for number, items in enumerate(frame["arrays"]):
            for index, word in enumerate(items):
                cells[STACK + self.layout.array_offset(number) + 4 * index] = word
        for name, word in walker.words.items():
            cells[GLOBALS[name]] = word
        for name, items in walker.arrays.items():
            for index, word in enumerate(items):
                cells[GLOBALS[name] + 4 * index] = word


def given_words(deed, *words):
    """The words of the variables that a deed reads, in order."""
    return dict(zip(read_by(deed), words))
