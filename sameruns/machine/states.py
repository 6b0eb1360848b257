"""The state of a machine, and what each row does to it."""

from sameruns.basics.words import unsigned, wrap
from sameruns.machine.arithmetic import WITH_NUMBER, branches, computed
from sameruns.machine.stories import TRAPS, frames_of, story_of
from sameruns.rows.coding import decode

TOLD_NUMBER = 5
RETURNED = 10
BRANCHES = ("beq", "bne", "blt", "bge", "bltu", "bgeu")


class MachineState:
    """All that a run of an image has at one moment."""

    def __init__(self, image):
        self.code = image
        self.at = image.base
        self.numbers = [0] * 32
        self.cells = [0] * ((image.top - image.data_start) // 4)
        self.cells[:len(image.data)] = image.data
        self.frames = frames_of(image)
        # For each address that was reached: what its row does, the row, and whether it is a loop return.
        self.ready = {}
        self.told = []
        self.end = None
        self.steps = 0
        self.rounds = 0
        self.fallen = 0

    def assign(self, number, word):
        """Give a word to a register; the first one stays 0."""
        if number != 0:
            self.numbers[number] = word

    def cell_index(self, address):
        """Return the index of the memory cell at an address, or None."""
        distance = address - self.code.data_start
        if distance & 3 != 0 or not 0 <= distance < 4 * len(self.cells):
            return None
        return distance // 4

    def word_at(self, address):
        """Return the word of the memory cell at an address, or None."""
        index = self.cell_index(address)
        return None if index is None else self.cells[index]


def drive_machine(state, rounds, steps):
    """Do rows until the run has ended or one of the limits stops it."""
    while state.end is None and state.steps < steps:
        at = state.at
        if at not in state.ready:
            state.ready[at] = prepared(state.code, at)
        action, row, is_round = state.ready[at]
        if is_round and state.rounds >= rounds:
            return
        behind = action(state, row)
        if behind is None:
            state.end = ("fault", at)
            return
        state.steps += 1
        if is_round:
            state.rounds += 1
        # The address stays at an ebreak, which ends the run and is no fall.
        if behind <= at and state.end is None:
            state.fallen += 1
        state.at = behind


def prepared(image, address):
    """Return the tuple (action, row, whether it is a loop return) for an address."""
    distance = address - image.base
    row = None
    if distance & 3 == 0 and 0 <= distance < 4 * len(image.words):
        row = decode(image.words[distance // 4])
    if row is None:
        return (do_fault, None, False)
    name = row[0]
    if name in ACTIONS:
        return (ACTIONS[name], row, name == "jal" and row[1] == 0 and row[2] <= 0)
    if name in WITH_NUMBER:
        return (do_near, (WITH_NUMBER[name], *row[1:]), False)
    return (do_branch if name in BRANCHES else do_three, row, False)


def do_fault(state, row):
    """Do nothing, as there is no row."""
    return None


def do_three(state, row):
    """Compute from two registers."""
    name, rd, rs1, rs2 = row
    state.assign(rd, computed(name, state.numbers[rs1], state.numbers[rs2]))
    return state.at + 4


def do_near(state, row):
    """Compute from a register and a number."""
    name, rd, rs1, number = row
    state.assign(rd, computed(name, state.numbers[rs1], number))
    return state.at + 4


def do_branch(state, row):
    """Go on elsewhere if a condition holds."""
    name, rs1, rs2, offset = row
    return state.at + (offset if branches(name, state.numbers[rs1], state.numbers[rs2]) else 4)


def do_upper(state, row):
    """Give the upper bits of a register."""
    state.assign(row[1], wrap(row[2] * 4096))
    return state.at + 4


def do_upper_here(state, row):
    """Give an address that is a number of pages away."""
    state.assign(row[1], wrap(state.at + row[2] * 4096))
    return state.at + 4


def do_jump(state, row):
    """Go on elsewhere, and keep the address behind."""
    state.assign(row[1], wrap(state.at + 4))
    return state.at + row[2]


def do_far_jump(state, row):
    """Go on at the address in a register, and keep the address behind."""
    _, rd, rs1, number = row
    behind = unsigned(state.numbers[rs1] + number)
    state.assign(rd, wrap(state.at + 4))
    return behind - (behind & 1)


def do_load(state, row):
    """Load a register from a memory cell."""
    _, rd, rs1, number = row
    index = state.cell_index(unsigned(state.numbers[rs1] + number))
    if index is None:
        return None
    state.assign(rd, state.cells[index])
    return state.at + 4


def do_store(state, row):
    """Store a register in a memory cell."""
    _, rs2, rs1, number = row
    index = state.cell_index(unsigned(state.numbers[rs1] + number))
    if index is None:
        return None
    state.cells[index] = state.numbers[rs2]
    return state.at + 4


def do_tell(state, row):
    """Tell a word."""
    state.told.append((state.numbers[TOLD_NUMBER], story_of(state)))
    return state.at + 4


def do_end(state, row):
    """End the run."""
    kind, _ = state.code.mark(state.at) or ("", ())
    if kind == "end":
        state.end = ("end", state.numbers[RETURNED])
    elif kind in TRAPS:
        state.end = ("trap", kind, story_of(state))
    else:
        state.end = ("stop", state.at)
    return state.at


ACTIONS = {
    "lui": do_upper, "auipc": do_upper_here, "jal": do_jump, "jalr": do_far_jump, "lw": do_load, "sw": do_store,
    "ecall": do_tell, "ebreak": do_end,
}
