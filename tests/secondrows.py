"""A second reading of points 52, 53 and 68: instruction words as strings of bits, and what a row does; for tests."""

from fractions import Fraction
from math import floor, trunc

from tests.oracle import word

# The table of point 52: opcode, and the names with f3, or f3/f7.
THREE = """add 0/0, sub 0/32, sll 1/0, slt 2/0, sltu 3/0, xor 4/0, srl 5/0, sra 5/32, or 6/0, and 7/0, mul 0/1, mulh 1/1,
mulhsu 2/1, mulhu 3/1, div 4/1, divu 5/1, rem 6/1, remu 7/1"""
NEAR = "addi 0, slti 2, sltiu 3, xori 4, ori 6, andi 7"
SHIFT = "slli 1/0, srli 5/0, srai 5/32"
BRANCH = "beq 0, bne 1, blt 4, bge 5, bltu 6, bgeu 7"


def table():
    """A dict from each name to the tuple (form, opcode, f3, f7)."""
    found = {"jalr": ("near", 103, 0, None), "lw": ("near", 3, 2, None), "sw": ("store", 35, 2, None)}
    for form, opcode, text in (("three", 51, THREE), ("near", 19, NEAR), ("shift", 19, SHIFT), ("branch", 99, BRANCH)):
        for entry in text.split(","):
            name, numbers = entry.split()
            f3, _, f7 = numbers.partition("/")
            found[name] = (form, opcode, int(f3), int(f7) if f7 else None)
    found.update({"lui": ("upper", 55, None, None), "auipc": ("upper", 23, None, None), "jal": ("jal", 111, None, None)})
    found.update({"ecall": ("whole", 115, None, None), "ebreak": ("whole", 1048691, None, None)})
    return found


TABLE = table()
REGISTER = range(32)
NEAR_RANGE = range(-2048, 2048)
RANGES = {
    "three": (REGISTER, REGISTER, REGISTER), "near": (REGISTER, REGISTER, NEAR_RANGE), "shift": (REGISTER, REGISTER, REGISTER),
    "store": (REGISTER, REGISTER, NEAR_RANGE), "branch": (REGISTER, REGISTER, range(-4096, 4095, 2)),
    "upper": (REGISTER, range(1048576)), "jal": (REGISTER, range(-1048576, 1048575, 2)), "whole": (),
}


def ranges(name):
    """The ranges of the entries behind the name of a row."""
    return RANGES[TABLE[name][0]]


def bits(number, count):
    """The last bits of a number in two's complement, the highest one first."""
    return format(number & ((1 << count) - 1), "b").zfill(count)


def part(text, high, low):
    """The bits from high down to low."""
    return text[len(text) - 1 - high:len(text) - low]


def second_encode(row):
    """The instruction word of a row."""
    form, opcode, f3, f7 = TABLE[row[0]]
    if form == "whole":
        return opcode
    first = bits(row[1], 5)
    code = bits(opcode, 7)
    if form == "upper":
        return int(bits(row[2], 20) + first + code, 2)
    if form == "jal":
        way = bits(row[2], 21)
        return int(part(way, 20, 20) + part(way, 10, 1) + part(way, 11, 11) + part(way, 19, 12) + first + code, 2)
    second, three = bits(row[2], 5), bits(f3, 3)
    if form in ("three", "shift"):
        return int(bits(f7, 7) + bits(row[3], 5) + second + three + first + code, 2)
    if form == "near":
        return int(bits(row[3], 12) + second + three + first + code, 2)
    if form == "store":
        imm = bits(row[3], 12)
        return int(part(imm, 11, 5) + first + second + three + part(imm, 4, 0) + code, 2)
    way = bits(row[3], 13)
    return int(part(way, 12, 12) + part(way, 10, 5) + second + first + three + part(way, 4, 1) + part(way, 11, 11) + code, 2)


def has_row(number):
    """True if some row has this instruction word."""
    text = bits(number, 32)
    opcode, f3, f7 = int(part(text, 6, 0), 2), int(part(text, 14, 12), 2), int(part(text, 31, 25), 2)
    for form, code, three, seven in TABLE.values():
        if form == "whole":
            if number == code:
                return True
        elif opcode == code and three in (None, f3) and seven in (None, f7):
            return True
    return False


def u(a):
    """The unsigned value of a word."""
    return a % 2 ** 32


def computed(name, a, b):
    """The word that a row with two registers gives."""
    shift = b % 32
    return word({
        "add": lambda: a + b, "sub": lambda: a - b, "mul": lambda: a * b, "and": lambda: u(a) & u(b), "or": lambda: u(a) | u(b),
        "xor": lambda: u(a) ^ u(b), "sll": lambda: a * 2 ** shift, "sra": lambda: floor(Fraction(a, 2 ** shift)),
        "srl": lambda: floor(Fraction(u(a), 2 ** shift)), "slt": lambda: int(a < b), "sltu": lambda: int(u(a) < u(b)),
        "mulh": lambda: floor(Fraction(a * b, 2 ** 32)), "mulhsu": lambda: floor(Fraction(a * u(b), 2 ** 32)),
        "mulhu": lambda: floor(Fraction(u(a) * u(b), 2 ** 32)), "div": lambda: trunc(Fraction(a, b)) if b else -1,
        "rem": lambda: a - b * trunc(Fraction(a, b)) if b else a, "divu": lambda: u(a) // u(b) if b else -1,
        "remu": lambda: u(a) % u(b) if b else a,
    }[name]())


def branches(name, a, b):
    """True if a branch goes to its offset."""
    return {
        "beq": a == b, "bne": a != b, "blt": a < b, "bge": a >= b, "bltu": u(a) < u(b), "bgeu": u(a) >= u(b),
    }[name]


def execute(row, at, held, cells):
    """Do a row that is no ecall or ebreak; return the address behind. A cell that is not there is a KeyError.

    `held` is a list of the words of the registers, `cells` a dict from addresses to words.
    """
    name, form = row[0], TABLE[row[0]][0]
    if form == "branch":
        return at + (row[3] if branches(name, held[row[1]], held[row[2]]) else 4)
    if name == "sw":
        address = u(held[row[2]] + row[3])
        cells[address]
        cells[address] = held[row[1]]
        return at + 4
    behind = at + 4
    if form == "three":
        made = computed(name, held[row[2]], held[row[3]])
    elif name == "lw":
        made = cells[u(held[row[2]] + row[3])]
    elif name == "jalr":
        behind = u(held[row[2]] + row[3]) // 2 * 2
        made = at + 4
    elif name == "jal":
        behind = at + row[2]
        made = at + 4
    elif form == "upper":
        made = row[2] * 4096 + (at if name == "auipc" else 0)
    else:
        # The name of the row with two registers is that without the letter i.
        made = computed(name.replace("i", ""), held[row[2]], row[3])
    if row[1] != 0:
        held[row[1]] = word(made)
    return behind
