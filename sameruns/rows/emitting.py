"""The code of a function."""

from sameruns.middle.reaching import reached
from sameruns.middle.wanted import wanted
from sameruns.rows.coding import encode
from sameruns.rows.deedrows import DEPTH_LEFT, OVER, write_deed, write_trap
from sameruns.rows.layout import CELL, Layout
from sameruns.rows.linewriting import FIRST, STACK, LineWriter

RETURN_ADDRESS = 1
# The word that is returned and the first argument lie here; the other arguments follow.
FIRST_ARGUMENT = 10


class Piece:
    """The code of one function."""

    def __init__(self, name, params, frame, lines):
        self.name = name
        self.params = params
        self.frame = frame
        self.lines = tuple(lines)
        self.words = tuple([encode(row) for row, _, _ in self.lines])


class Emitter:
    """Writes out the lines of a function, block after block."""

    def __init__(self, flow):
        self.body = flow
        self.numbers = reached(flow)
        self.layout = Layout(flow)
        self.writer = LineWriter(self.layout)
        # For each block the index of its first line, and the tuples (index, block) of the jumps that are still open.
        self.starts = {}
        self.jumps = []

    def write_all(self):
        """Write all lines."""
        self.write_opening()
        for index, number in enumerate(self.numbers):
            self.starts[number] = len(self.writer.lines)
            block = self.body.blocks[number]
            for deed in block[:-1]:
                self.write_inner(deed)
            following = self.numbers[index + 1] if index + 1 < len(self.numbers) else None
            self.write_end(block[-1], following)
        for index, block in self.jumps:
            distance = CELL * (self.starts[block] - index)
            self.writer.lines[index] = (("jal", 0, distance), None, None)

    def write_opening(self):
        """Write what comes before block 0: take the frame, and give the variables their first words."""
        writer, layout = self.writer, self.layout
        writer.add_row("addi", STACK, STACK, -layout.frame)
        writer.store_cell(RETURN_ADDRESS, layout.frame - CELL)
        for number, offset in layout.stored:
            writer.store_cell(number, offset)
        for number, length in enumerate(self.body.arrays):
            for index in range(length):
                writer.store_cell(0, layout.array_offset(number) + CELL * index)
        writer.move_all(tuple([(param, FIRST_ARGUMENT + index) for index, param in enumerate(self.body.params)]))
        for variable in wanted(self.body)[0]:
            if variable not in self.body.params:
                write_deed(writer, ("word", variable, 0))

    def write_inner(self, deed):
        """Write a deed that is no end."""
        if deed[0] == "call":
            self.write_call(deed)
        elif deed[0] == "tell":
            self.writer.move(FIRST, deed[1])
            self.writer.add_marked(("ecall",), "tell", deed[2])
        else:
            write_deed(self.writer, deed)

    def write_call(self, deed):
        """Write a call."""
        _, d, name, args, chain = deed
        writer = self.writer
        write_trap(writer, ("bne", DEPTH_LEFT, 0), "depth", chain)
        writer.add_row("addi", DEPTH_LEFT, DEPTH_LEFT, -1)
        writer.move_all(tuple([(FIRST_ARGUMENT + index, arg) for index, arg in enumerate(args)]))
        writer.lines.append((("jal", RETURN_ADDRESS, 0), ("call", name), ("call", chain)))
        writer.add_row("addi", DEPTH_LEFT, DEPTH_LEFT, 1)
        writer.move(d, FIRST_ARGUMENT)

    def write_end(self, end, following):
        """Write the end of a block; the block with the number following, if there is one, comes behind it."""
        if end[0] == "back":
            self.write_closing(end[1])
        elif end[0] == "jump":
            self.write_jump(end[1], following)
        elif end[2] == end[3]:
            self.write_jump(end[2], following)
        else:
            self.write_fork(end, following)

    def write_jump(self, block, following):
        """Write a jump to a block unless this one follows; a loop return never goes to the block that follows."""
        if block != following:
            self.jumps.append((len(self.writer.lines), block))
            self.writer.add_row("jal", 0, 0)

    def write_fork(self, fork, following):
        """Write a fork to two different blocks; its branch never goes farther than over one row."""
        _, variable, yes, no = fork
        number = self.writer.held(variable, FIRST)
        if no == following:
            self.writer.add_row("beq", number, 0, OVER)
            self.write_jump(yes, following)
        else:
            self.writer.add_row("bne", number, 0, OVER)
            self.write_jump(no, following)
            self.write_jump(yes, following)

    def write_closing(self, variable):
        """Write the return with the word of a variable."""
        writer, layout = self.writer, self.layout
        writer.move(FIRST_ARGUMENT, variable)
        for number, offset in layout.stored:
            writer.load_cell(number, offset)
        writer.load_cell(RETURN_ADDRESS, layout.frame - CELL)
        writer.add_row("addi", STACK, STACK, layout.frame)
        writer.add_row("jalr", 0, RETURN_ADDRESS, 0)


def emitted(flow):
    """Return the piece of a placed flow."""
    emitter = Emitter(flow)
    emitter.write_all()
    return Piece(flow.name, len(flow.params), emitter.layout.frame, emitter.writer.lines)
