"""Point 54: the texts of rows."""

import random
import unittest

from sameruns.rows.coding import encode
from sameruns.rows.rowtext import read_row, row_text
from tests.secondrows import TABLE, ranges

EXAMPLES = (
    ("add x5, x6, x7", ("add", 5, 6, 7)), ("addi x5, x0, -1", ("addi", 5, 0, -1)), ("beq x5, x0, 8", ("beq", 5, 0, 8)),
    ("lui x5, 12", ("lui", 5, 12)), ("jal x1, -64", ("jal", 1, -64)), ("jalr x0, x1, 0", ("jalr", 0, 1, 0)), ("ecall", ("ecall",)),
    ("lw x5, -8(x2)", ("lw", 5, 2, -8)), ("sw x5, 12(x2)", ("sw", 5, 2, 12)), ("ebreak", ("ebreak",)),
    ("slli x31, x10, 31", ("slli", 31, 10, 31)), ("auipc x0, 1048575", ("auipc", 0, 1048575)), ("bgeu x20, x21, -4096", ("bgeu", 20, 21, -4096)),
)
WRONG = """
add x5, x6
add x5, x6, x7, x8
add x5, x6, 7
add x5, x6, x32
add x5, x6, x-1
add x05, x6, x7
add x5,x6,x7
add x5, x6,x7
add x5 , x6, x7
add  x5, x6, x7
 add x5, x6, x7
add x5, x6, x7 
add x5, x6,  x7
add X5, x6, x7
ADD x5, x6, x7
Add x5, x6, x7
add 5, 6, 7
add x5 x6 x7
add x5, x6, x7,
add x5; x6; x7
addi x5, x0, x1
addi x5, x0, +1
addi x5, x0, -0
addi x5, x0, 01
addi x5, x0, 00
addi x5, x0, --1
addi x5, x0, -
addi x5, x0, 
addi x5, x0, 2048
addi x5, x0, -2049
addi x5, x0, 1.0
addi x5, x0, 0x1
addi x5, x0, 1 
addi x5, x0, 1_0
slli x5, x0, 32
slli x5, x0, -1
beq x5, x0, 7
beq x5, x0, 4096
beq x5, x0, -4098
lui x5, 1048576
lui x5, -1
lui x5, high g
jal x1, 1048576
jal x1, 3
jal x1, -1048578
jal x1, call f
jal x32, 0
jal 1, 0
jalr x0, 0(x1)
jalr x0, x1
lw x5, x2, -8
lw x5, -8 (x2)
lw x5, -8(x2
lw x5, -8(x2))
lw x5, (x2)
lw x5, -8(2)
lw x5,-8(x2)
lw x5, -8( x2)
lw x5, -8(x2) 
lw x5, -8x2
lw x5, -8[x2]
lw x5, 2048(x2)
lw x5, 0(x32)
lw x5, low g(x2)
lw 5, 0(x2)
lw x5, x2, 0(x2)
lw x5
lw
sw x5, x2, 12
sw x5, 12, x2
sw x5, 12(x2)(x2)
sw x5, -2049(x2)
sw 12(x2), x5
add x5(x6), x7
ecall 
ecall x0
ecall 0
 ecall
ebreak,
ecallecall
nop
mv x5, x6
li x5, 1
fence
unknown x5, x6, x7
x5
5
,
three x5, x6, x7
""".split("\n")[1:-1]


class RowTextTest(unittest.TestCase):
    def test_examples(self):
        for text, row in EXAMPLES:
            self.assertEqual(row_text(row), text)
            self.assertEqual(read_row(text), row)
            self.assertIs(type(read_row(text)), tuple)

    def test_each_row(self):
        for name in TABLE:
            for seed in range(60):
                chance = random.Random(seed)
                entries = [chance.choice([values[0], values[-1], chance.choice(values)]) for values in ranges(name)]
                row = (name, *entries)
                text = row_text(row)
                self.assertEqual(read_row(text), row)
                self.assertEqual(encode(read_row(text)), encode(row))
                registers = [f"x{entry}" if values == range(32) else str(entry) for entry, values in zip(entries, ranges(name))]
                if name in ("lw", "sw"):
                    self.assertEqual(text, f"{name} x{entries[0]}, {entries[2]}(x{entries[1]})")
                elif name in ("slli", "srli", "srai"):
                    self.assertEqual(text, f"{name} x{entries[0]}, x{entries[1]}, {entries[2]}")
                else:
                    self.assertEqual(text, " ".join([name, ", ".join(registers)]).strip())

    def test_wrong_texts(self):
        for text in (*WRONG, "", " ", "\n", "ecall\n", "\necall", "add x5, x6,\nx7", "add x5, x6, x7\n", "add\nx5, x6, x7",
                     "addi x5, x0, " + "1" * 5000, "addi x5, x0, " + "0" * 19000, "add x" + "9" * 19000 + ", x0, x0", "add " * 4000):
            self.assertIsNone(read_row(text), text[:60])

    def test_texts_with_one_thing_changed(self):
        found = {None: 0}
        for text, row in EXAMPLES:
            for at in range(len(text) + 1):
                changed = [text[:at] + mark + text[at:] for mark in " ,x-+0179()a\nX"]
                changed += [text[:at] + mark + text[at + 1:] for mark in ("", " ", "x", "-", "0", "8", "X", "(")]
                for other in changed:
                    read = read_row(other)
                    found[None] += read is None
                    if read is not None:
                        self.assertEqual(row_text(read), other)
                        encode(read)
                        self.assertEqual(read == row, other == text)
        self.assertGreater(found[None], 1000)


if __name__ == "__main__":
    unittest.main()
