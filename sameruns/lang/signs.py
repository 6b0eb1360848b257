"""The binary and unary operators: how tightly they bind, and which operation they are."""

UNARY = ("-", "~", "!")

# A greater number stands for a tighter group.
TIGHTNESS = {
    "*": 10, "/": 10, "mod": 10, "+": 9, "-": 9, "<<": 8, ">>": 8,
    "<": 7, "<=": 7, ">": 7, ">=": 7, "==": 6, "!=": 6,
    "&": 5, "^": 4, "|": 3, "&&": 2, "||": 1,
}

OPERATION = {
    "+": "add", "-": "sub", "*": "mul", "/": "quo", "mod": "mod", "&": "and", "^": "xor", "|": "or",
    "<<": "shl", ">>": "sar", "<": "lt", "<=": "le", "==": "eq", "!=": "ne", ">": "lt", ">=": "le",
}

# These are the operation of the right operand and the left one.
TURNED = (">", ">=")

DIVIDING = ("/", "mod")
