"""The rows of instruction words: encoding and decoding."""

from sameruns.basics.errors import BadRow

# For each name the form of its rows, the opcode (of the last two the whole word), f3 and f7.
ROWS = {
    "add": ("three", 51, 0, 0), "sub": ("three", 51, 0, 32), "sll": ("three", 51, 1, 0),
    "slt": ("three", 51, 2, 0), "sltu": ("three", 51, 3, 0), "xor": ("three", 51, 4, 0),
    "srl": ("three", 51, 5, 0), "sra": ("three", 51, 5, 32), "or": ("three", 51, 6, 0),
    "and": ("three", 51, 7, 0), "mul": ("three", 51, 0, 1), "mulh": ("three", 51, 1, 1),
    "mulhsu": ("three", 51, 2, 1), "mulhu": ("three", 51, 3, 1), "div": ("three", 51, 4, 1),
    "divu": ("three", 51, 5, 1), "rem": ("three", 51, 6, 1), "remu": ("three", 51, 7, 1),
    "addi": ("near", 19, 0, 0), "slti": ("near", 19, 2, 0), "sltiu": ("near", 19, 3, 0),
    "xori": ("near", 19, 4, 0), "ori": ("near", 19, 6, 0), "andi": ("near", 19, 7, 0),
    "slli": ("shift", 19, 1, 0), "srli": ("shift", 19, 5, 0), "srai": ("shift", 19, 5, 32),
    "jalr": ("near", 103, 0, 0), "lw": ("near", 3, 2, 0), "sw": ("store", 35, 2, 0),
    "beq": ("branch", 99, 0, 0), "bne": ("branch", 99, 1, 0), "blt": ("branch", 99, 4, 0),
    "bge": ("branch", 99, 5, 0), "bltu": ("branch", 99, 6, 0), "bgeu": ("branch", 99, 7, 0),
    "lui": ("upper", 55, 0, 0), "auipc": ("upper", 23, 0, 0), "jal": ("jump", 111, 0, 0),
    "ecall": ("alone", 115, 0, 0), "ebreak": ("alone", 1048691, 0, 0),
}

# For each form the fields of the word that the entries behind the name stand in.
FORMS = {
    "three": ("rd", "rs1", "rs2"), "near": ("rd", "rs1", "imm"), "shift": ("rd", "rs1", "amount"),
    "store": ("rs2", "rs1", "parted"), "branch": ("rs1", "rs2", "way"), "upper": ("rd", "value"),
    "jump": ("rd", "far"), "alone": (),
}

# For each form the bits of the word that hold the opcode, f3 and f7.
FIXED_BITS = {
    "three": 0xFE00707F, "near": 0x707F, "shift": 0xFE00707F, "store": 0x707F, "branch": 0x707F,
    "upper": 0x7F, "jump": 0x7F, "alone": 0xFFFFFFFF,
}

# For each field the tuples (first bit of the number, how many bits, first bit in the word).
BITS = {
    "rd": ((0, 5, 7),), "rs1": ((0, 5, 15),), "rs2": ((0, 5, 20),), "amount": ((0, 5, 20),),
    "imm": ((0, 12, 20),), "parted": ((0, 5, 7), (5, 7, 25)), "value": ((0, 20, 12),),
    "way": ((11, 1, 7), (1, 4, 8), (5, 6, 25), (12, 1, 31)),
    "far": ((12, 8, 12), (11, 1, 20), (1, 10, 21), (20, 1, 31)),
}

# For each field the least and the greatest number, and what it is a multiple of.
BOUNDS = {
    "rd": (0, 31, 1), "rs1": (0, 31, 1), "rs2": (0, 31, 1), "amount": (0, 31, 1),
    "imm": (-2048, 2047, 1), "parted": (-2048, 2047, 1), "value": (0, 1048575, 1),
    "way": (-4096, 4094, 2), "far": (-1048576, 1048574, 2),
}


def encode(row):
    """Return the instruction word of a row; raise BadRow if it is not in the table."""
    index = wrong_entry(row)
    if index is not None:
        raise BadRow(index)
    _, opcode, f3, f7 = ROWS[row[0]]
    word = opcode | f3 << 12 | f7 << 25
    for field, number in zip(fields_of(row[0]), row[1:]):
        word = with_number(word, field, number)
    return word


def fields_of(name):
    """Return the tuple of the fields for the entries behind the name of a row."""
    return FORMS[ROWS[name][0]]


def wrong_entry(row):
    """Return the least index of an entry that is not as in the table, or None."""
    if row[0] not in ROWS or len(row) != len(fields_of(row[0])) + 1:
        return 0
    for index, field in enumerate(fields_of(row[0])):
        least, greatest, unit = BOUNDS[field]
        number = row[index + 1]
        if not least <= number <= greatest or number % unit != 0:
            return index + 1
    return None


def with_number(word, field, number):
    """Return the instruction word with this number in a field, and all other bits as they are."""
    for start, many, position in BITS[field]:
        mask = (1 << many) - 1
        word = word & ~(mask << position) | (number >> start & mask) << position
    return word


def number_in(word, field):
    """Return the number in a field of an instruction word."""
    number = 0
    for start, many, position in BITS[field]:
        mask = (1 << many) - 1
        number |= (word >> position & mask) << start
    least, greatest, _ = BOUNDS[field]
    # In two's complement the greatest bit counts below 0.
    return number if number <= greatest else number + 2 * least


def decode(word):
    """Return the row of an instruction word, or None if there is none."""
    for name, (form, opcode, f3, f7) in ROWS.items():
        if (word ^ opcode) & 127 == 0 and word & FIXED_BITS[form] == opcode | f3 << 12 | f7 << 25:
            return (name, *[number_in(word, field) for field in FORMS[form]])
    return None
