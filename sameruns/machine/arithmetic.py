"""What the rows compute from two words."""

from sameruns.basics.operations import result
from sameruns.basics.words import unsigned, wrap

# The rows that do one of the operations of the language.
OPERATION_OF = {
    "add": "add", "sub": "sub", "mul": "mul", "and": "and", "or": "or", "xor": "xor", "div": "quo", "rem": "mod",
    "sll": "shl", "sra": "sar", "slt": "lt",
}

# The rows with a number in the place of the second register, by the one with two registers.
WITH_NUMBER = {
    "addi": "add", "slti": "slt", "sltiu": "sltu", "xori": "xor", "ori": "or", "andi": "and", "slli": "sll",
    "srli": "srl", "srai": "sra",
}


def computed(name, a, b):
    """Return the word that a row with two registers computes from two words."""
    if name in OPERATION_OF:
        return result(OPERATION_OF[name], a, b)
    action = FURTHER[name]
    return action(a, b)


def shifted_right_unsigned(a, b):
    """Return the unsigned value of a word shifted to the right by the last five bits of the other one."""
    return wrap(unsigned(a) >> (b & 31))


def less_unsigned(a, b):
    """Return 1 if the unsigned value of the first word is less, otherwise 0."""
    return 1 if unsigned(a) < unsigned(b) else 0


def upper_half(a, b):
    """Return the upper half of the product."""
    return a * b >> 32


def upper_half_mixed(a, b):
    """Return the upper half of the product with the unsigned value of the second word."""
    return a * unsigned(b) >> 32


def upper_half_unsigned(a, b):
    """Return the upper half of the product of the unsigned values."""
    return wrap(unsigned(a) * unsigned(b) >> 32)


def quotient_unsigned(a, b):
    """Return the quotient of the unsigned values, -1 for a division by 0."""
    return -1 if b == 0 else wrap(unsigned(a) // unsigned(b))


def remainder_unsigned(a, b):
    """Return what the quotient of the unsigned values leaves."""
    return a if b == 0 else wrap(unsigned(a) % unsigned(b))


FURTHER = {
    "srl": shifted_right_unsigned, "sltu": less_unsigned, "mulh": upper_half, "mulhsu": upper_half_mixed,
    "mulhu": upper_half_unsigned, "divu": quotient_unsigned, "remu": remainder_unsigned,
}


def branches(name, a, b):
    """Return True if a branch with two words goes to its offset."""
    if name == "beq":
        return a == b
    if name == "bne":
        return a != b
    if name == "blt":
        return a < b
    if name == "bge":
        return a >= b
    is_less = unsigned(a) < unsigned(b)
    return is_less if name == "bltu" else not is_less
