"""Points 6 to 8 and 67 to 71: the machine."""

import itertools
import random
import unittest

from sameruns.basics.runs import Run
from sameruns.lang.unitreading import read_unit
from sameruns.machine.machine import Machine, run_image
from sameruns.objects.linking import link
from sameruns.objects.objectread import read_listing
from sameruns.objects.objects import Object
from sameruns.rows.coding import encode
from sameruns.rows.rowtext import row_text
from sameruns.source.source import run_source
from sameruns.whole.compiling import compiled
from tests.secondlink import drawn_objects
from tests.secondmachine import SecondMachine
from tests.secondrows import TABLE, branches, computed, ranges

EDGES = (0, 1, -1, 2, 31, 32, 33, -32, 2047, -2048, 65535, 65536, -65536, 46341, 2147483647, 2147483646, -2147483648, -2147483647, 1431655765, -1431655766)
COUNTING = """word g; word f(word n) { while (n) { n = n - 1; tell n; } return g; }
word main() { word i; while (i < 3) { i = i + 1; g = g + f(i); f(2); } return g / (i - 3); }"""


def image_of(*rows, data=(), frame=64, depth=2, base=4096, marks=(), raw=(), more=()):
    """An image with just these rows as the function main; `raw` are further instruction words, `more` further functions."""
    words = [encode(row) for row in rows] + list(raw)
    return link(Object(words, (("main", 0, 0, frame), *more), data, (), (), marks), depth=depth, base=base)


def listed(*lines, **more):
    """The image of one listing."""
    return link(read_listing(list(lines)), **more)


def load(number, word):
    """Rows that give a word to a register."""
    low = (word + 2048) % 4096 - 2048
    return (("lui", number, (word - low) // 4096 % 2 ** 20), ("addi", number, number, low))


class Compared(unittest.TestCase):
    """Compares a machine with the second reading."""

    def compare(self, image, *limits):
        machine, second = Machine(image), SecondMachine(image)
        self.same(machine, second)
        for rounds, steps in limits or ((1000, 100000),):
            self.assertIsNone(machine.go(rounds=rounds, steps=steps))
            second.go(rounds, steps)
            self.same(machine, second)
        return machine

    def same(self, machine, second):
        run = machine.run()
        self.assertIsInstance(run, Run)
        self.assertEqual((run.shown(), run.steps, machine.falls), (second.shown(), second.steps, second.falls))
        self.assertEqual((run.told, run.end, run.rounds), second.shown())
        self.assertEqual(machine.address, second.at)
        self.assertEqual([machine.holds(k) for k in range(32)], second.held)
        for address, word in second.cells.items():
            self.assertEqual(machine.cell(address), word)
        self.assertEqual(machine.story(), second.story())
        self.assertLessEqual(run.steps, machine.state.code.size * (machine.falls + 1))


class RowsTest(Compared):
    """Point 68."""

    def one(self, row, first, second, data=()):
        """Do one row on words in the registers 8 and 9; return the machine behind it."""
        rows = (*load(8, first), *load(9, second), row)
        machine = Machine(image_of(*rows, data=data))
        machine.go(steps=4 + len(rows))
        return machine

    def test_rows_with_two_registers(self):
        names = [name for name, (form, *_) in TABLE.items() if form == "three"]
        self.assertEqual(len(names), 18)
        for name in names:
            for a, b in itertools.product(EDGES, EDGES):
                machine = self.one((name, 8, 8, 9), a, b)
                self.assertEqual(machine.holds(8), computed(name, a, b), (name, a, b))
                self.assertEqual(machine.holds(9), b)
                self.assertIs(type(machine.holds(8)), int)

    def test_examples_of_the_rows(self):
        for name, a, b, word in (("srl", -1, 28, 15), ("srl", -1, 0, -1), ("sra", -16, 34, -4), ("sltu", 1, -1, 1), ("sltu", -1, 1, 0), ("mulh", -1, -1, 0),
                                 ("mulhu", -1, -1, -2), ("mulhsu", -1, -1, -1), ("divu", -1, 2, 2147483647), ("divu", 7, 0, -1), ("remu", -1, 16, 15),
                                 ("remu", -5, 0, -5), ("div", -2147483648, -1, -2147483648), ("rem", -2147483648, -1, 0), ("div", 7, 0, -1), ("rem", 7, 0, 7),
                                 ("sll", 1, 63, -2147483648), ("slt", -1, 0, 1), ("divu", 1, -1, 0), ("mul", 65536, 65536, 0)):
            self.assertEqual(self.one((name, 7, 8, 9), a, b).holds(7), word, name)

    def test_rows_with_a_number(self):
        for name, other in (("addi", "add"), ("slti", "slt"), ("sltiu", "sltu"), ("xori", "xor"), ("ori", "or"), ("andi", "and")):
            for a, b in itertools.product(EDGES, (0, 1, -1, 5, 2047, -2048, 1365)):
                self.assertEqual(self.one((name, 8, 8, b), a, 0).holds(8), computed(other, a, b), (name, a, b))
        for name, other in (("slli", "sll"), ("srli", "srl"), ("srai", "sra")):
            for a, b in itertools.product(EDGES, range(32)):
                self.assertEqual(self.one((name, 9, 8, b), a, 0).holds(9), computed(other, a, b), (name, a, b))

    def test_the_first_register_stays_0(self):
        for name, (form, *_) in TABLE.items():
            if form in ("three", "near", "shift", "upper") and name not in ("jalr", "lw"):
                row = (name, 0, 8, 9) if form == "three" else (name, 0, 5) if form == "upper" else (name, 0, 8, 3)
                self.assertEqual(self.one(row, 77, 88).holds(0), 0)
        machine = self.compare(image_of(("jal", 0, 8), ("ebreak",), ("auipc", 6, 0), ("lw", 0, 6, 16), ("add", 7, 0, 0), ("jalr", 0, 6, 13), ("ebreak",)))
        self.assertEqual([machine.holds(0), machine.holds(7)], [0, 0])
        # A load into it needs a memory cell all the same.
        self.assertEqual(self.compare(image_of(("lw", 0, 0, 0))).run().end, ("fault", 4116))

    def test_upper_numbers(self):
        for value in (0, 1, 524287, 524288, 1048575, 12):
            for base in (0, 4096, 1048576):
                machine = Machine(image_of(("lui", 8, value), ("auipc", 9, value), base=base))
                machine.go(steps=6)
                self.assertEqual(machine.holds(8), (value * 4096 + 2 ** 31) % 2 ** 32 - 2 ** 31)
                self.assertEqual(machine.holds(9), (value * 4096 + base + 24 + 2 ** 31) % 2 ** 32 - 2 ** 31)

    def test_branches(self):
        for name in ("beq", "bne", "blt", "bge", "bltu", "bgeu"):
            for a, b in itertools.product(EDGES, EDGES):
                for offset in (8, -4, 4):
                    machine = self.one((name, 8, 9, offset), a, b)
                    self.assertEqual(machine.address, 4116 + 16 + (offset if branches(name, a, b) else 4))
        for offset in (-4096, 4094, 2, -2, 0):
            self.assertEqual(self.one(("beq", 8, 8, offset), 1, 1).address, 4132 + offset)

    def test_jumps(self):
        for rd in (0, 1, 8):
            for offset in (0, 2, -2, 8, -16, 1048574, -1048576):
                machine = self.one(("jal", rd, offset), 5, 5)
                self.assertEqual(machine.address, 4132 + offset)
                self.assertEqual(machine.holds(rd), 4136 if rd else 0)
        for rd in (0, 1, 8):
            for word, imm in ((4096, 0), (4097, 0), (4096, 3), (4096, -1), (0, -1), (-1, 0), (2147483647, 1), (-2147483648, -1), (5, -5), (0, 0)):
                machine = self.one(("jalr", rd, 8, imm), word, 0)
                self.assertEqual(machine.address, (word + imm) % 2 ** 32 // 2 * 2)
                self.assertEqual(machine.holds(rd), 4136 if rd else 0)

    def test_memory(self):
        data = (("g", 0, 7), ("t", 3, 0), ("h", 0, -9))
        for rd in (8, 9, 10):
            image = image_of(("lui", 8, 1), ("addi", 8, 8, 4 * 8 + 16), ("lw", rd, 8, -4), ("lw", rd, 8, 0), ("sw", rd, 8, 4), ("lw", 11, 8, 4), data=data)
            # 6 rows of main behind the 5 of the start: the data begin at 4140.
            self.assertEqual(image.data_start, 4140)
            machine = self.compare(image, (1000, 4 + 6), (1000, 11))
            # The register of the address may be the one that is loaded.
            self.assertEqual(machine.run().end, ("fault", 4128 if rd == 8 else 4140))

    def test_words_in_memory(self):
        start = 4096 + 4 * (5 + 7)
        for word in EDGES:
            image = image_of(*load(9, word), *load(8, start), ("sw", 9, 8, 8), ("lw", 10, 8, 8), ("jalr", 0, 1, 0), data=(("t", 4, 0),))
            self.assertEqual(self.compare(image).run().end, ("end", word))

    def test_the_first_and_the_last_cell(self):
        start = 4096 + 4 * (5 + 4)
        data = (("g", 0, 5), ("t", 2, 0))
        top = start + 12 + 2 * 64
        for name in ("lw", "sw"):
            for address in (start - 4, start - 1, start, start + 1, start + 2, start + 3, start + 4, top - 8, top - 4, top - 3, top - 1, top, top + 4,
                            4096, 4092, 0, -4, -1, -2147483648, 2147483644, start - 2 ** 31):
                image = image_of(*load(8, address), (name, 9, 8, 0), ("jalr", 0, 1, 0), data=data)
                self.assertEqual((image.data_start, image.top), (start, top))
                fine = start <= address < top and address % 4 == 0
                self.assertEqual(self.compare(image).run().end, ("end", 0) if fine else ("fault", 4096 + 28), address)
            # The number is added as a word: from the other end, too.
            for word, imm in ((start - 2047, 2047), (start + 2048, -2048), (start + 2, 2), (-2047 + start, 2047)):
                image = image_of(*load(8, word), (name, 9, 8, imm), ("jalr", 0, 1, 0), data=data)
                self.assertEqual(self.compare(image).run().end, ("end", 0) if (word + imm) % 4 == 0 else ("fault", 4124))
        low = image_of(("lw", 9, 0, -4), base=0)
        self.assertEqual(self.compare(low).run().end, ("fault", 20))
        low = image_of(("lw", 9, 0, 28), ("jalr", 0, 1, 0), base=0)
        self.assertEqual(self.compare(low).run().end, ("end", 0))


class EndsTest(Compared):
    def test_the_beginning(self):
        image = image_of(("jalr", 0, 1, 0), data=(("g", 0, 5), ("t", 2, 0), ("h", 0, -1)), base=8, depth=3)
        machine = Machine(image)
        self.assertEqual([machine.holds(k) for k in range(32)], [0] * 32)
        self.assertEqual([machine.address, machine.falls, machine.story()], [8, 0, ()])
        self.assertEqual([machine.cell(image.data_start + 4 * k) for k in range(4)], [5, 0, 0, -1])
        self.assertEqual({machine.cell(address) for address in range(image.data_start + 16, image.top, 4)}, {0})
        self.assertEqual((machine.run().told, machine.run().end, machine.run().steps, machine.run().rounds), ((), None, 0, 0))
        machine.go(steps=4)
        self.assertEqual([machine.holds(k) for k in (1, 2, 4)], [8 + 16, image.top, 2])

    def test_the_end(self):
        self.assertEqual(self.compare(image_of(("addi", 10, 0, 9), ("jalr", 0, 1, 0))).run().shown(), ((), ("end", 9), 0))
        machine = self.compare(image_of(("jalr", 0, 1, 0)))
        self.assertEqual((machine.run().end, machine.run().steps, machine.address), (("end", 0), 6, 4112))

    def test_ebreak(self):
        for kind in ("divide", "index", "depth", "tell", "call", None):
            marks = ((1, kind, (("main", 3),)),) if kind else ()
            rows = (("sw", 1, 2, -4), ("ebreak",), ("ecall",))
            machine = self.compare(image_of(("addi", 2, 2, -64), ("sw", 1, 2, 60), ("ebreak",), ("ecall",), marks=tuple([(2, *mark[1:]) for mark in marks])))
            if kind in ("divide", "index", "depth"):
                self.assertEqual(machine.run().end, ("trap", kind, (("main", 3),)))
            else:
                self.assertEqual(machine.run().end, ("stop", 4124))
            # It is a step, it is no fall, and the address stays.
            self.assertEqual((machine.run().steps, machine.falls, machine.address), (7, 0, 4124))
            machine = self.compare(image_of(*rows, marks=marks))
            self.assertEqual(machine.run().steps, 6)
        # Without a story it is a trap all the same.
        self.assertEqual(self.compare(image_of(("ebreak",), marks=((0, "index", (("main", 3),)),))).run().end, ("trap", "index", ()))

    def test_faults(self):
        for rows, raw, address in (
            ((), (0,), 4116), ((), (4294967295,), 4116), ((), (115 | 1 << 7,), 4116), ((("addi", 5, 5, 1),), (), 4120), ((("jal", 0, 2),), (), 4118),
            ((("jal", 0, -24),), (), 4092), ((("jal", 0, -4116),), (), 0), ((("jal", 0, -4118),), (), -2), ((("jal", 0, -1048576),), (), 4116 - 1048576),
            ((("jal", 0, 1048574),), (), 4116 + 1048574), ((("jalr", 0, 0, -2),), (), 4294967294), ((("jalr", 0, 0, -1),), (), 4294967294),
            ((("jalr", 0, 0, 0),), (), 0), ((("jalr", 0, 1, 2),), (), 4114), ((("beq", 0, 0, -4096),), (), 20), ((("beq", 0, 0, 6), ("ecall",)), (), 4122),
        ):
            machine = self.compare(image_of(*rows, raw=raw))
            steps = 4 + len(rows)
            if address == 4122:
                steps = 5
            self.assertEqual((machine.run().end, machine.run().steps, machine.address), (("fault", address), steps, address))

    def test_the_limit_comes_before_a_fault(self):
        image = image_of(("addi", 5, 0, 1), ("addi", 5, 0, 2))
        machine = Machine(image)
        machine.go(steps=6)
        self.assertEqual((machine.run().end, machine.run().steps, machine.address), (None, 6, 4124))
        machine.go(steps=5)
        self.assertIsNone(machine.run().end)
        machine.go(steps=7)
        self.assertEqual((machine.run().end, machine.run().steps), (("fault", 4124), 6))
        machine = Machine(image_of(raw=(0,)))
        machine.go(steps=4)
        self.assertIsNone(machine.run().end)
        # The limit of loop returns does not keep a fault back.
        machine.go(rounds=0)
        self.assertEqual(machine.run().end, ("fault", 4116))

    def test_loop_returns(self):
        for row, rounds in ((("jal", 0, 0), 5), (("jal", 1, 0), 0), (("jal", 0, 4), 0), (("beq", 0, 0, 0), 0), (("bne", 1, 0, -4), 0)):
            machine = self.compare(image_of(("addi", 5, 5, 1), row, ("ebreak",)), (5, 60))
            self.assertEqual(machine.run().rounds, rounds)
        machine = self.compare(image_of(("jal", 0, 0)), (0, 100), (3, 100), (1000, 100))
        self.assertEqual((machine.run().rounds, machine.run().steps, machine.falls, machine.address), (96, 100, 96, 4116))
        machine = self.compare(image_of(("addi", 5, 5, 1), ("jal", 0, -4)), (7, 1000))
        self.assertEqual((machine.holds(5), machine.run().rounds, machine.run().steps), (8, 7, 4 + 15))

    def test_tells(self):
        machine = self.compare(image_of(("addi", 2, 2, -64), ("sw", 1, 2, 60), ("addi", 5, 0, 7), ("ecall",), ("addi", 5, 0, 8), ("ecall",), ("jalr", 0, 1, 0),
                                        marks=((3, "tell", (("main", 1), ("f", 2))),)))
        self.assertEqual(machine.run().told, ((7, (("main", 1), ("f", 2))), (8, ())))


class DrivingTest(Compared):
    """Point 8."""

    def test_limits_that_are_passed_already(self):
        image = link(compiled(read_unit(COUNTING)))
        self.compare(image, (2, 1000), (1, 1000), (0, 1000), (3, 1000), (3, 10), (1000, 10), (0, 0), (1000, 100000), (0, 0), (5, 5))

    def test_the_limits_0(self):
        machine = self.compare(link(compiled(read_unit(COUNTING))), (0, 0), (10, 0), (0, 1000))
        self.assertEqual(machine.run().rounds, 0)
        self.assertIsNone(machine.run().end)

    def test_behind_the_end(self):
        machine = self.compare(link(compiled(read_unit(COUNTING))), (1000, 10000), (1000, 20000), (10000, 1000000), (0, 0))
        self.assertEqual(machine.run().end, ("trap", "divide", (("main", 4),)))

    def test_in_several_calls(self):
        for seed in range(120):
            image = self.image(seed)
            chance = random.Random(seed)
            limits = [(chance.randint(0, 12), chance.randint(0, 300)) for _ in range(12)]
            self.compare(image, *limits)
            one, other = Machine(image), Machine(image)
            rounds, steps = max([pair[0] for pair in limits]), max([pair[1] for pair in limits])
            one.go(rounds=rounds, steps=steps)
            for limit in range(0, steps + 1, 7):
                other.go(rounds=rounds, steps=limit)
            other.go(rounds=rounds, steps=steps)
            self.assertEqual((one.run().shown(), one.run().steps, one.falls), (other.run().shown(), other.run().steps, other.falls))

    def image(self, seed):
        return link(compiled(read_unit(COUNTING), free=seed % 21)) if seed % 3 == 0 else link(*drawn_objects(seed), depth=3)

    def test_a_run_that_was_taken_earlier(self):
        machine = Machine(link(compiled(read_unit(COUNTING))))
        machine.go(steps=60)
        early = machine.run()
        shown, steps = early.shown(), early.steps
        machine.go()
        self.assertEqual((early.shown(), early.steps), (shown, steps))
        self.assertNotEqual(machine.run().shown(), shown)
        self.assertEqual(machine.run().told[:len(shown[0])], shown[0])

    def test_two_machines_by_turns(self):
        image = link(compiled(read_unit(COUNTING), free=3))
        parts = image.parts()
        one, other, alone = Machine(image), Machine(image), Machine(image)
        for steps in range(0, 400, 5):
            one.go(steps=steps)
            other.go(steps=steps // 2)
        alone.go(steps=197)
        self.assertEqual((other.run().shown(), other.run().steps), (alone.run().shown(), 197))
        alone.go(steps=395)
        self.assertEqual(one.run().shown(), alone.run().shown())
        self.assertEqual(image.parts(), parts)

    def test_run_image(self):
        image = link(compiled(read_unit(COUNTING)))
        for rounds, steps in ((0, 50), (3, 1000), (1000, 0), (1000, 100000)):
            machine = Machine(image)
            machine.go(rounds=rounds, steps=steps)
            run = run_image(image, rounds=rounds, steps=steps)
            self.assertIsInstance(run, Run)
            self.assertEqual((run.shown(), run.steps), (machine.run().shown(), machine.run().steps))
        self.assertEqual(run_image(image).shown(), run_source([read_unit(COUNTING)]).shown())

    def test_the_usual_limits(self):
        image = image_of(("jal", 0, 0))
        self.assertEqual((run_image(image).rounds, run_image(image).steps), (1000, 1004))
        image = image_of(("beq", 0, 0, 0))
        self.assertEqual(run_image(image).steps, 100000)
        machine = Machine(image)
        machine.go()
        self.assertEqual(machine.run().steps, 100000)
        machine = Machine(image_of(("jal", 0, 0)))
        machine.go()
        self.assertEqual(machine.run().rounds, 1000)

    def test_example_of_the_interface(self):
        unit = read_unit("word main() { word i; word s; while (i < 4) { i = i + 1; s = s + i; } tell s; return i; }")
        self.assertEqual(run_image(link(compiled(unit, "known", "fixed", "dead", free=3))).shown(), (((10, (("main", 3),)),), ("end", 4), 4))


class StoryTest(Compared):
    """Point 70."""

    def test_each_kind_under_open_calls(self):
        text = """word t[2]; word f(word n, word k) { if (n == 0) { if (k == 0) { tell 5; } if (k == 1) { tell 1 / n; } if (k == 2) { tell t[2]; }
            if (k == 3) { return f(0, 3); } return 0; } return f(n - 1, k) + 1; }
            word main() { word k; tell 9; while (k < 4) { f(3, k); k = k + 1; } }"""
        for start in range(4):
            unit = read_unit(text.replace("word k; tell 9;", f"word k; k = {start};"))
            for free in (0, 3, 20):
                image = link(compiled(unit, free=free), depth=9)
                machine = self.compare(image)
                self.assertEqual(machine.run().shown(), run_source([unit], depth=9).shown())
                if start:
                    self.assertEqual(machine.story(), machine.run().end[2])
                    self.assertEqual(machine.story()[0], ("main", 2))
                    self.assertGreater(len(machine.story()), 4)

    def test_at_the_place_of_a_tell(self):
        unit = read_unit("word f(word n) { tell n; } word main() { f(4); tell 1; }")
        machine = Machine(link(compiled(unit)))
        stories = {}
        for steps in range(60):
            machine.go(steps=steps)
            stories[machine.story()] = True
        self.assertEqual(list(stories), [(), (("main", 0), ("f", 0)), (("main", 1),)])

    def stopped(self, *lines, **more):
        """The story of an image of this listing where it stops."""
        machine = self.compare(listed(*lines, **more))
        return machine.story()

    def test_what_may_not_be_so(self):
        begin = ("function main 0 16", "  addi x2, x2, -16", "  sw x1, 12(x2)")
        good = (*begin, "mark index main:4", "  ebreak")
        self.assertEqual(self.stopped(*good), (("main", 4),))
        # No debugging row of such a kind at the address.
        self.assertEqual(self.stopped(*begin, "  ebreak"), ())
        self.assertEqual(self.stopped(*begin, "mark call main:4", "  ebreak"), ())
        self.assertEqual(self.stopped(*begin, "mark tell main:4", "  ebreak"), (("main", 4),))
        # No cell where the return address should lie: above the stack, below it, and beside a multiple of 4.
        for number in (1, 2, 4, -1, 2047, -16, -2048, 16):
            lines = (*begin, f"  addi x2, x2, {number}", "mark index main:4", "  ebreak")
            self.stopped(*lines, depth=1)
        self.assertEqual(self.stopped(*begin, "  addi x2, x2, 16", "mark index main:4", "  ebreak"), ())
        self.assertEqual(self.stopped(*begin, "  addi x2, x0, 0", "mark index main:4", "  ebreak"), ())
        self.assertEqual(self.stopped(*begin, "  addi x2, x0, -4", "mark index main:4", "  ebreak"), ())
        self.assertEqual(self.stopped(*begin, "  addi x2, x2, 2", "mark index main:4", "  ebreak"), ())
        # A return address that is none: of no call, of another row, of no row, outside.
        for word in (0, 4, -4, 4108, 4112, 4113, 4116, 4120, 4124, 1000000, -2147483648):
            lines = ("function main 0 16", "  addi x2, x2, -16", *["  " + row_text(row) for row in load(6, word)], "  sw x6, 12(x2)",
                     "mark divide main:4", "  ebreak")
            self.assertEqual(self.stopped(*lines), (("main", 4),) if word == 4112 else ())

    def test_calls_on_the_way(self):
        lines = ("function main 0 16", "  addi x2, x2, -16", "  sw x1, 12(x2)", "{}", "  jal x1, call f", "  ebreak",
                 "function f 0 8", "  addi x2, x2, -8", "  sw x1, 4(x2)", "mark tell f:1 g:2", "  ecall", "mark depth f:3", "  ebreak")
        machine = self.compare(listed(*[line.format("mark call main:7 h:8") for line in lines]))
        self.assertEqual(machine.run().shown(), (((0, (("main", 7), ("h", 8), ("f", 1), ("g", 2))),), ("trap", "depth", (("main", 7), ("h", 8), ("f", 3))), 0))
        for kind in ("tell", "divide", "index", "depth"):
            machine = self.compare(listed(*[line.format(f"mark {kind} main:7") for line in lines]))
            self.assertEqual(machine.run().shown(), (((0, ()),), ("trap", "depth", ()), 0))
        self.assertEqual(self.compare(listed(*[line for line in lines if line != "{}"])).run().told, ((0, ()),))

    def test_marks_at_the_bounds_of_functions(self):
        """Each function has a frame of its own, from its first word to its last one."""
        for frames, story in (((8, 12), (("f", 3),)), ((12, 8), (("f", 3),)), ((8, 8), (("f", 3),))):
            for at in (0, 1):
                # The jump goes to the first word of f, without a call; the cell below the top has the return address of main.
                rows = [("addi", 2, 2, -frames[1]), ("sw", 1, 2, frames[1] - 4), ("jal", 0, 4 + 4 * at), ("ebreak",), ("ebreak",)]
                image = image_of(*rows, frame=frames[0], more=(("f", 3, 0, frames[1]),), marks=((3, "index", (("f", 3),)), (4, "index", (("f", 3),))))
                self.assertEqual(self.compare(image).story(), story)
                image = image_of(*rows, frame=frames[1], more=(("f", 4, 0, frames[0]),), marks=((3, "index", (("f", 3),)), (4, "index", (("f", 3),))))
                self.assertEqual(self.compare(image).story() == story, at == 0 or frames[0] == frames[1])

    def test_many_calls(self):
        """A function that calls itself without a check, and stops when a number is 0."""
        for many in (1, 2, 999, 1000, 1001, 1002):
            count = load(8, many - 1)
            image = listed("array t 1000", "function main 0 4", "  addi x2, x2, -4", "  sw x1, 0(x2)", *["  " + row_text(row) for row in count],
                           "mark call main:0", "  jal x1, call f", "  ebreak",
                           "function f 0 4", "  addi x2, x2, -4", "  sw x1, 0(x2)", "  beq x8, x0, 12", "  addi x8, x8, -1", "mark call f:1",
                           "  jal x1, call f", "mark index f:2", "  ebreak", depth=1000)
            machine, second = Machine(image), SecondMachine(image)
            machine.go()
            second.go()
            self.assertEqual((machine.story(), machine.run().end), (second.story(), second.end))
            story = (("main", 0), *[("f", 1)] * (many - 1), ("f", 2))
            self.assertEqual(machine.story(), story if many <= 1000 else ())

    def test_deep_programs(self):
        unit = read_unit("word f(word n) { if (n) { return f(n - 1) + 1; } tell n; return 1 / n; } word main() { return f(998); }")
        for free in (0, 8):
            for passes in ((), ("laid", "known")):
                image = link(compiled(unit, *passes, free=free), depth=1000)
                run = run_image(image)
                self.assertEqual(run.shown(), run_source([unit], depth=1000).shown())
                self.assertEqual(len(run.end[2]), 1000)


class DrawnTest(Compared):
    """Images that no compiler made."""

    def test_drawn_objects(self):
        ends = {}
        for seed in range(250):
            chance = random.Random(seed)
            image = link(*drawn_objects(seed, most=3), depth=chance.choice((1, 2, 5)), base=4 * chance.randint(0, 2000))
            machine = self.compare(image, (3, 50), (20, 400))
            end = machine.run().end
            ends[end and end[0]] = ends.get(end and end[0], 0) + 1
        self.assertGreater(ends["fault"], 20)

    def test_drawn_rows(self):
        """Rows that are likely to go on, with jumps inside the image and words in memory."""
        ends, falls = {}, 0
        for seed in range(350):
            chance = random.Random(seed)
            many = chance.randint(3, 14)
            machine = self.compare(self.drawn(chance, many), (2, 30), (10, 300))
            end = machine.run().end
            ends[end and end[0]] = ends.get(end and end[0], 0) + 1
            falls += machine.falls
        self.assertGreater(min([ends.get(kind, 0) for kind in (None, "fault", "stop", "trap", "end")]), 5, ends)
        self.assertGreater(falls, 3000)

    def drawn(self, chance, many):
        rows, marks = [], []
        for at in range(many):
            name = chance.choice([*TABLE, "ecall", "ecall", "lw", "sw", "lw", "sw", "jal", "jalr"])
            row = (name, *[chance.choice((values[0], chance.choice(values))) for values in ranges(name)])
            target = 4 * (chance.randrange(many) - at)
            if name in ("beq", "bne", "blt", "bge", "bltu", "bgeu", "jal"):
                row = (*row[:-1], target if chance.random() < 0.9 else target + 2)
            if name in ("lw", "sw") and chance.random() < 0.9:
                row = (name, row[1], 2, chance.choice((-4, -8, -12, -64, -20)))
            if name == "jalr" and chance.random() < 0.8:
                row = (name, chance.choice((0, 0, 7)), 1, chance.choice((0, 0, 4, 8, 1)))
            if name != "sw" and row[1:] and row[1] in (1, 2) and chance.random() < 0.8:
                row = (name, 6, *row[2:])
            rows.append(row)
            if chance.random() < 0.4:
                marks.append((at, chance.choice(("tell", "call", "divide", "index", "depth")), (("main", at),)))
        more = (("f", chance.randrange(1, many), 0, chance.choice((4, 8, 12))),) if chance.random() < 0.6 else ()
        return image_of(*rows, data=(("g", 0, 4116), ("h", 0, 4112), ("t", 5, 0)), frame=chance.choice((4, 8, 16)), marks=tuple(marks), more=more)


if __name__ == "__main__":
    unittest.main()
