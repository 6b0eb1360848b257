"""The lines of the deeds that are no ends, calls or tells."""

from sameruns.basics.words import wrap
from sameruns.rows.linewriting import FIRST, SECOND, STACK, LineWriter

# The operations that are one row on two registers, and those that are one row on a register and a near number.
DIRECT = {
    "add": "add", "sub": "sub", "mul": "mul", "and": "and", "or": "or", "xor": "xor", "shl": "sll", "sar": "sra",
    "lt": "slt", "quo": "div", "mod": "rem",
}
DIRECT_NEAR = {"add": "addi", "and": "andi", "or": "ori", "xor": "xori", "lt": "slti"}
SHIFTS = {"shl": "slli", "sar": "srai"}
DEPTH_LEFT = 4
# A branch over the next row.
OVER = 8


def deed_lines(deed, layout):
    """Return a list of the lines of a deed that is no end, call or tell."""
    writer = LineWriter(layout)
    write_deed(writer, deed)
    return writer.lines


def write_deed(writer, deed):
    """Write the lines of a deed that is no end, call or tell."""
    action = ACTIONS[deed[0]]
    action(writer, deed)


def write_word(writer, deed):
    """Give a word to a variable."""
    writer.give(deed[1], writer.word_in(deed[2], writer.target(deed[1])))


def write_copy(writer, deed):
    """Give the word of a variable to another one."""
    if deed[1] != deed[2]:
        writer.move(deed[1], deed[2])


def write_moves(writer, deed):
    """Move several words at once."""
    writer.move_all(tuple(zip(deed[1], deed[2])))


def write_skip(writer, deed):
    """Do nothing."""


def write_op(writer, deed):
    """Do an operation on two variables."""
    _, d, name, a, b = deed
    first = writer.held(a, FIRST)
    write_operation(writer, name, writer.target(d), first, writer.held(b, SECOND))
    writer.keep(d)


def write_operation(writer, name, target, first, second):
    """Do an operation on two registers; the first scratch register may be any of the three."""
    if name in DIRECT:
        writer.add_row(DIRECT[name], target, first, second)
    elif name == "le":
        writer.add_row("slt", FIRST, second, first)
        writer.add_row("xori", target, FIRST, 1)
    else:
        writer.add_row("xor", FIRST, first, second)
        write_comparison(writer, name, target, FIRST)


def write_comparison(writer, name, target, number):
    """Compare a register with 0 by eq or ne."""
    if name == "eq":
        writer.add_row("sltiu", target, number, 1)
    else:
        writer.add_row("sltu", target, 0, number)


def write_with(writer, deed):
    """Do an operation on a variable and a word."""
    _, d, name, a, n = deed
    first = writer.held(a, FIRST)
    target = writer.target(d)
    if name in SHIFTS:
        writer.add_row(SHIFTS[name], target, first, n & 31)
    elif name in DIRECT_NEAR and is_near(n):
        writer.add_row(DIRECT_NEAR[name], target, first, n)
    elif name == "sub" and is_near(-n):
        writer.add_row("addi", target, first, -n)
    elif name == "le" and is_near(n + 1):
        writer.add_row("slti", target, first, n + 1)
    elif name in ("eq", "ne") and n == 0:
        write_comparison(writer, name, target, first)
    elif name in ("eq", "ne") and is_near(n):
        writer.add_row("xori", FIRST, first, n)
        write_comparison(writer, name, target, FIRST)
    else:
        write_operation(writer, name, target, first, writer.word_in(n, SECOND))
    writer.keep(d)


def is_near(number):
    """Return True if a number can stand in a row with registers."""
    return -2048 <= number <= 2047


def write_read(writer, deed):
    """Read a global word."""
    writer.add_open(("lui", FIRST, 0), "high", deed[2])
    writer.add_open(("lw", writer.target(deed[1]), FIRST, 0), "low", deed[2])
    writer.keep(deed[1])


def write_write(writer, deed):
    """Give a word to a global word."""
    value = writer.held(deed[2], SECOND)
    writer.add_open(("lui", FIRST, 0), "high", deed[1])
    writer.add_open(("sw", value, FIRST, 0), "low", deed[1])


def write_item_base(writer, row, index):
    """Put the address of an item but for what its lw or sw adds into the first scratch register."""
    writer.add_row("slli", FIRST, writer.held(index, FIRST), 2)
    if isinstance(row, str):
        writer.add_open(("lui", SECOND, 0), "high", row)
        writer.add_row("add", FIRST, FIRST, SECOND)
    else:
        writer.add_row("add", FIRST, FIRST, STACK)


def write_item_use(writer, name, number, row):
    """Load or store the item whose address is prepared."""
    if isinstance(row, str):
        writer.add_open((name, number, FIRST, 0), "low", row)
    else:
        writer.add_row(name, number, FIRST, writer.layout.array_offset(row))


def write_load(writer, deed):
    """Read an item of an array."""
    write_item_base(writer, deed[2], deed[3])
    write_item_use(writer, "lw", writer.target(deed[1]), deed[2])
    writer.keep(deed[1])


def write_store(writer, deed):
    """Give a word to an item of an array."""
    write_item_base(writer, deed[1], deed[2])
    write_item_use(writer, "sw", writer.held(deed[3], SECOND), deed[1])


def write_trap(writer, branch, kind, chain):
    """End the run by a trap unless a branch leads over it."""
    writer.add_row(*branch, OVER)
    writer.add_marked(("ebreak",), kind, chain)


def write_nonzero(writer, deed):
    """Trap if a word is 0."""
    write_trap(writer, ("bne", writer.held(deed[1], FIRST), 0), "divide", deed[2])


def write_inside(writer, deed):
    """Trap if a word is no index of an array of this length; as an unsigned value a negative one is too great."""
    index = writer.held(deed[1], FIRST)
    writer.set_word(SECOND, wrap(deed[2]))
    write_trap(writer, ("bltu", index, SECOND), "index", deed[3])


def write_depth(writer, deed):
    """Trap if this many further functions could not be opened."""
    writer.set_word(FIRST, wrap(deed[1]))
    write_trap(writer, ("bge", DEPTH_LEFT, FIRST), "depth", deed[2])


ACTIONS = {
    "word": write_word, "copy": write_copy, "op": write_op, "with": write_with, "read": write_read,
    "load": write_load, "moves": write_moves, "skip": write_skip, "write": write_write, "store": write_store,
    "nonzero": write_nonzero, "inside": write_inside, "depth": write_depth,
}
