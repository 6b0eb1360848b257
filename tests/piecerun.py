"""Looks at pieces and runs them by a second reading of rows, as point 58 says; for tests."""

import random

from sameruns.rows.coding import encode
from sameruns.rows.emitting import emitted
from sameruns.rows.layout import Layout
from tests.secondrows import execute
from tests.walker import assigned_by, leads_to, read_by

KEPT = (8, 9, *range(18, 28))
MARKED = {"nonzero": ("divide",), "inside": ("index",), "depth": ("depth",), "call": ("call", "depth"), "tell": ("tell",)}
CODE = 0x1000
GAP = 0x400
OUTSIDE = 0x400000


def reached_numbers(flow):
    """The set of the reached blocks."""
    found, waiting = set(), [0]
    while waiting:
        number = waiting.pop()
        if number not in found:
            found.add(number)
            waiting += leads_to(flow.blocks[number])
    return found


def check_piece(test, flow):
    """Check what can be seen of the piece of a placed flow without a run; return the piece."""
    parts = flow.parts()
    piece = emitted(flow)
    test.assertEqual(flow.parts(), parts)
    again = emitted(flow)
    test.assertEqual((again.name, again.params, again.frame, again.lines, again.words),
                     (piece.name, piece.params, piece.frame, piece.lines, piece.words))
    test.assertEqual((piece.name, piece.params, piece.frame), (flow.name, len(flow.params), Layout(flow).frame))
    test.assertIs(type(piece.lines), tuple)
    test.assertEqual(piece.words, tuple([encode(row) for row, _, _ in piece.lines]))
    deeds = [deed for number in reached_numbers(flow) for deed in flow.blocks[number]]
    marks = sorted([mark for _, _, mark in piece.lines if mark is not None])
    test.assertEqual(marks, sorted([(kind, deed[-1]) for deed in deeds for kind in MARKED.get(deed[0], ())]))
    check_jumps(test, flow, piece)
    used = {*flow.params, *[v for block in flow.blocks for deed in block for v in (*read_by(deed), *assigned_by(deed))]}
    allowed = {0, 1, 2, 4, 5, 6, 7, *range(10, 18), *[v for v in used if v < 32]}
    for row, place, mark in piece.lines:
        if row[0] not in ("sw", "beq", "bne", "blt", "bge", "bltu", "bgeu", "ecall", "ebreak"):
            test.assertIn(row[1], allowed)
        test.assertEqual(row[0] in ("ecall", "ebreak") or row[:2] == ("jal", 1), mark is not None, row)
        if mark is not None:
            test.assertEqual({"tell": "ecall", "call": "jal"}.get(mark[0], "ebreak"), row[0])
        if row[0] == "jalr":
            test.assertEqual(row, ("jalr", 0, 1, 0))
        if row[0] == "jal" and row[1] == 1:
            test.assertEqual((row[2], place[0]), (0, "call"))
        elif place is not None:
            test.assertIn(place[0], ("high", "low"))
            test.assertEqual(row[-1], 0)
    check_places(test, deeds, piece)
    return piece


def check_places(test, deeds, piece):
    """The places name what the deeds name."""
    called = [deed[2] for deed in deeds if deed[0] == "call"]
    test.assertEqual(sorted(called), sorted([place[1] for _, place, _ in piece.lines if place is not None and place[0] == "call"]))
    named = {deed[2] for deed in deeds if deed[0] in ("read", "load")} | {deed[1] for deed in deeds if deed[0] in ("write", "store")}
    found = {place[1] for _, place, _ in piece.lines if place is not None and place[0] != "call"}
    test.assertEqual(found, {name for name in named if isinstance(name, str)})


def check_jumps(test, flow, piece):
    """Rule 6: the loop returns, and that everything else goes forward to words of the piece."""
    returns = 0
    for at, (row, _, _) in enumerate(piece.lines):
        if row[:2] == ("jal", 0) or row[0] in ("beq", "bne", "blt", "bge", "bltu", "bgeu"):
            test.assertIn(at + row[-1] // 4, range(len(piece.lines)))
            test.assertEqual(row[-1] % 4, 0)
            if row[-1] <= 0:
                test.assertEqual(row[0], "jal")
                returns += 1
    ends = [(number, flow.blocks[number][-1]) for number in reached_numbers(flow)]
    test.assertEqual(returns, len([1 for number, end in ends if end[0] == "jump" and end[1] <= number]))


class PieceRun:
    """A run of the pieces of a middle of placed flows."""

    def __init__(self, test, middle, depth, seed=0):
        self.test, self.depth = test, depth
        chance = random.Random(seed)
        self.word = lambda: chance.getrandbits(32) - 2 ** 31
        self.pieces = {flow.name: check_piece(test, flow) for flow in middle.flows}
        self.code, self.starts = {}, {}
        at = CODE
        for name, piece in self.pieces.items():
            self.starts[name] = at
            for line in piece.lines:
                self.code[at] = (name, *line)
                at += 4
        self.cells, self.addresses = {}, {}
        at += GAP
        for name, items in [(name, [word]) for name, word in middle.words] + [(name, [0] * many) for name, many in middle.arrays]:
            self.addresses[name] = at
            for item in items:
                self.cells[at] = item
                at += 4
            at += GAP
        self.globals = {name: set(range(start, at, 4)) for name, start in self.addresses.items()}
        self.all_globals = set(self.cells)
        most = max([piece.frame for piece in self.pieces.values()])
        self.top = at + GAP + depth * most
        self.cells.update({address: self.word() for address in range(at + GAP, self.top, 4)})
        self.held = [0] + [self.word() for _ in range(31)]
        self.held[1], self.held[2], self.held[4] = OUTSIDE, self.top, depth - 1
        self.told, self.end, self.rounds, self.steps, self.falls = [], None, 0, 0, 0
        self.open = []
        self.enter("main")

    def enter(self, name):
        """Note what a function finds at its entry."""
        held = self.held
        self.test.assertEqual(held[4], self.depth - 1 - len(self.open))
        self.open.append({"name": name, "stack": held[2], "back": held[1], "kept": [held[k] for k in KEPT], "chain": None})
        self.at = self.starts[name]

    def go(self, rounds, steps):
        """Do rows until the run has ended or a limit stops it."""
        while self.end is None and self.steps < steps:
            name, row, place, mark = self.code[self.at]
            self.test.assertEqual(name, self.open[-1]["name"])
            is_return = row[:2] == ("jal", 0) and row[2] <= 0
            if is_return and self.rounds >= rounds:
                return
            self.rounds += is_return
            self.steps += 1
            before = self.at
            self.look_at_stack(mark)
            self.do(self.fill(row, place), mark)
            if self.at <= before and self.end is None:
                self.falls += 1
                self.test.assertTrue(is_return or row[0] == "jalr" or row[:2] == ("jal", 1))

    def look_at_stack(self, mark):
        """Rule 2."""
        one, test = self.open[-1], self.test
        piece = self.pieces[one["name"]]
        lowered = one["stack"] - piece.frame
        test.assertIn(self.held[2], (one["stack"], lowered))
        if mark is not None:
            test.assertEqual(self.held[2], lowered)
            test.assertEqual(self.cells[lowered + piece.frame - 4], one["back"])

    def fill(self, row, place):
        """The row with the number that belongs into its place."""
        if place is None or place[0] == "call":
            return row
        address = self.addresses[place[1]]
        low = (address + 2048) % 4096 - 2048
        return (*row[:-1], low if place[0] == "low" else (address - low) // 4096)

    def do(self, row, mark):
        """Do a row."""
        one, test = self.open[-1], self.test
        if row[0] == "ecall":
            self.told.append((self.held[5], self.story(mark[1])))
            self.at += 4
        elif row[0] == "ebreak":
            self.end = ("trap", mark[0], self.story(mark[1]))
        elif row[0] == "jalr":
            test.assertEqual(self.held[2], one["stack"])
            test.assertEqual([self.held[k] for k in KEPT], one["kept"])
            test.assertEqual(self.held[1], one["back"])
            test.assertEqual(self.held[4], self.depth - len(self.open))
            self.open.pop()
            self.at = one["back"]
            if not self.open:
                test.assertEqual(self.at, OUTSIDE)
                self.end = ("end", self.held[10])
        elif row[:2] == ("jal", 1):
            one["chain"] = mark[1]
            self.held[1] = self.at + 4
            name = self.code[self.at][2][1]
            # A function that is called may find anything in the registers that it does not get.
            for number in (5, 6, 7, *range(10 + self.pieces[name].params, 18)):
                self.held[number] = self.word()
            self.enter(name)
        else:
            if row[0] == "sw":
                self.look_at_store(one, row)
            self.at = execute(row, self.at, self.held, self.cells)

    def look_at_store(self, one, row):
        """Rule 4: it stores only into its frame and into globals."""
        address = self.held[row[2]] + row[3]
        frame = self.pieces[one["name"]].frame
        if address not in self.all_globals:
            self.test.assertIn(address, range(one["stack"] - frame, one["stack"]))

    def story(self, chain):
        """The chains of the calls that are open, and then this one."""
        return tuple([place for one in self.open[:-1] for place in one["chain"]]) + chain

    def shown(self):
        return (tuple(self.told), self.end, self.rounds)
