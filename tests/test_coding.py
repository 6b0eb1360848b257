"""Points 52 and 53: rows and instruction words."""

import itertools
import random
import unittest

from sameruns.basics.errors import BadRow
from sameruns.rows.coding import decode, encode
from tests.secondrows import RANGES, TABLE, has_row, ranges, second_encode

# Some rows with the words that other tools give for them.
KNOWN = (
    (("addi", 1, 0, 1), 0x00100093), (("add", 5, 6, 7), 0x007302B3), (("sub", 5, 6, 7), 0x407302B3), (("lui", 5, 12), 0x0000C2B7),
    (("jal", 1, -64), 0xFC1FF0EF), (("beq", 5, 0, 8), 0x00028463), (("lw", 5, 2, -8), 0xFF812283), (("sw", 5, 2, 12), 0x00512623),
    (("jalr", 0, 1, 0), 0x00008067), (("mul", 5, 6, 7), 0x027302B3), (("ecall",), 0x00000073), (("ebreak",), 0x00100073),
    (("srai", 5, 5, 31), 0x41F2D293), (("auipc", 1, 0), 0x00000097), (("addi", 0, 0, 0), 0x00000013), (("sw", 1, 2, -4), 0xFE112E23),
    (("bne", 1, 2, -4), 0xFE209EE3), (("jal", 0, 2048), 0x0010006F), (("remu", 31, 31, 31), 0x03FFFFB3),
)


def near(values):
    """Some numbers at and beside the bounds of a range, and some between."""
    step = values.step
    first, last = values[0], values[-1]
    inner = [first + step, last - step, 0, step, -step, 5 * step, -7 * step, 1024, 2048, -2048, 32, 16]
    return sorted({first, last, *[n for n in inner if n in values]})


def rows():
    """Rows of all names at the bounds of their entries."""
    for name in TABLE:
        for entries in itertools.product(*[near(values) for values in ranges(name)]):
            yield (name, *entries)


class EncodeTest(unittest.TestCase):
    def test_known_words(self):
        for row, word in KNOWN:
            self.assertEqual(encode(row), word)
            self.assertEqual(decode(word), row)
            self.assertEqual(second_encode(row), word)

    def test_examples_of_the_interface(self):
        self.assertEqual([encode(("addi", 5, 0, -1)), decode(1048691), decode(0)], [4293919379, ("ebreak",), None])

    def test_every_row_of_the_table(self):
        many = 0
        for row in rows():
            word = encode(row)
            self.assertIs(type(word), int)
            self.assertEqual(word, second_encode(row), row)
            self.assertEqual(decode(word), row)
            self.assertIs(type(decode(word)), tuple)
            many += 1
        self.assertGreater(many, 10000)

    def test_each_bit_of_each_entry(self):
        for name in TABLE:
            zeros = [0] * len(ranges(name))
            for place, values in enumerate(ranges(name)):
                for bit in range(21):
                    for number in (1 << bit, -(1 << bit)):
                        if number in values:
                            row = (name, *zeros[:place], number, *zeros[place + 1:])
                            self.assertEqual(encode(row), second_encode(row))
                            self.assertEqual(decode(encode(row)), row)


class BadRowTest(unittest.TestCase):
    def check(self, row, index):
        with self.assertRaises(BadRow) as caught:
            encode(row)
        self.assertEqual(caught.exception.index, index, row)

    def test_names(self):
        for name in ("", "ADD", "addi ", "subi", "nop", "fence", "lb", "x5", "three", "mv", "ecall\n", "li"):
            for entries in ((), (1,), (1, 2), (1, 2, 3), (-1, 99, 5000), (1, 2, 3, 4)):
                self.check((name, *entries), 0)

    def test_an_entry_more_or_less(self):
        for name in TABLE:
            entries = [values[0] for values in ranges(name)]
            self.check((name, *entries, 0), 0)
            self.check((name, *entries, 0, 0, 0), 0)
            if entries:
                self.check((name, *entries[:-1]), 0)
                self.check((name,), 0)
                # The number of the entries comes before what they are.
                self.check((name, -1, *entries), 0)

    def test_each_entry_beside_its_bounds(self):
        for name in TABLE:
            good = [values[len(values) // 2] for values in ranges(name)]
            for place, values in enumerate(ranges(name)):
                wrong = [values[0] - 1, values[-1] + 1, values[0] - values.step, values[-1] + values.step, -(2 ** 40), 2 ** 40]
                wrong += [values[0] + 1, values[-1] - 1, 1, -1, 3] if values.step == 2 else []
                for number in wrong:
                    row = [*good[:place], number, *good[place + 1:]]
                    self.check((name, *row), place + 1)
                    # Behind it, anything may stand.
                    for later in range(place + 1, len(row)):
                        self.check((name, *row[:later], 2 ** 39 + 1, *row[later + 1:]), place + 1)

    def test_negative_registers(self):
        self.check(("add", -1, 0, 0), 1)
        self.check(("add", 0, -1, 0), 2)
        self.check(("add", 0, 0, -1), 3)
        self.check(("sw", -1, -1, 0), 1)
        self.check(("beq", 0, -32, 0), 2)
        self.check(("slli", 0, 0, -1), 3)


class DecodeTest(unittest.TestCase):
    def check(self, word):
        row = decode(word)
        if has_row(word):
            self.assertEqual(second_encode(row), word)
            self.assertEqual(encode(row), word)
            for entry, values in zip(row[1:], ranges(row[0])):
                self.assertIs(type(entry), int)
                self.assertIn(entry, values)
        else:
            self.assertIsNone(row, word)
        return row

    def test_every_opcode_with_every_f3_and_f7(self):
        found = {}
        for opcode in range(128):
            for f3 in range(8):
                for f7 in range(128) if opcode in (19, 51) else (0, 1, 2, 31, 32, 33, 64, 127):
                    row = self.check(opcode | f3 << 12 | f7 << 25 | 6 << 7 | 3 << 15 | 9 << 20)
                    if row is not None:
                        found[row[0]] = True
        self.assertEqual(set(found), set(TABLE) - {"ecall", "ebreak"})

    def test_words_without_a_row(self):
        for word in (0, 1, 4294967295, 0x0000006B, 0x0FF0000F, 3, 35, 99 | 2 << 12, 99 | 3 << 12, 103 | 1 << 12, 19 | 1 << 12 | 1 << 25,
                     19 | 5 << 12 | 33 << 25, 51 | 1 << 12 | 32 << 25, 51 | 2 << 25, 3 | 1 << 12, 35 | 1 << 12):
            self.assertIsNone(decode(word), word)

    def test_system_words(self):
        self.assertEqual(decode(115), ("ecall",))
        for bit in range(7, 32):
            self.assertEqual(decode(115 | 1 << bit), ("ebreak",) if bit == 20 else None)
            if bit != 20:
                self.assertIsNone(decode(1048691 | 1 << bit))
        for bit in range(32):
            self.check(115 ^ 1 << bit)
            self.check(1048691 ^ 1 << bit)

    def test_drawn_words(self):
        chance = random.Random(5)
        for _ in range(6000):
            self.check(chance.getrandbits(32))
        opcodes = [51, 19, 103, 3, 35, 99, 55, 23, 111, 115]
        many = 0
        for _ in range(6000):
            row = self.check(chance.getrandbits(25) << 7 | chance.choice(opcodes))
            many += row is not None
        self.assertGreater(many, 2000)

    def test_forms(self):
        self.assertEqual(len(TABLE), 41)
        self.assertEqual(len(RANGES), 8)


if __name__ == "__main__":
    unittest.main()
