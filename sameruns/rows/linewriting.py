"""Writing out the lines of code for variables in registers and slots."""

from sameruns.basics.words import high, low
from sameruns.homes.cells import FIRST_SLOT
from sameruns.homes.moving import in_turn

# The scratch registers: results are made in the first one, and rings of moves go by the last one.
FIRST = 5
SECOND = 6
SPARE = 7
STACK = 2


class LineWriter:
    """The lines that are written so far, and the layout that they are for."""

    def __init__(self, layout):
        self.layout = layout
        self.lines = []

    def add_row(self, *row):
        """Add a row without a place and without a mark."""
        self.lines.append((row, None, None))

    def add_open(self, row, kind, name):
        """Add a row with an open place."""
        self.lines.append((row, (kind, name), None))

    def add_marked(self, row, kind, chain):
        """Add a row with a mark."""
        self.lines.append((row, None, (kind, chain)))

    def load_cell(self, number, offset):
        """Load a register from an offset of the frame."""
        self.add_row("lw", number, STACK, offset)

    def store_cell(self, number, offset):
        """Store a register at an offset of the frame."""
        self.add_row("sw", number, STACK, offset)

    def held(self, variable, scratch):
        """Return the register that holds the word of a variable; this is the scratch register for a slot."""
        if variable < FIRST_SLOT:
            return variable
        self.load_cell(scratch, self.layout.offset(variable))
        return scratch

    def target(self, variable):
        """Return the register in which the new word of a variable is made."""
        return variable if variable < FIRST_SLOT else FIRST

    def keep(self, variable):
        """Store the new word of a variable if it belongs into a slot."""
        if variable >= FIRST_SLOT:
            self.store_cell(FIRST, self.layout.offset(variable))

    def set_word(self, number, word):
        """Give a word to a register."""
        if low(word) == word:
            self.add_row("addi", number, 0, word)
            return
        self.add_row("lui", number, high(word))
        if low(word) != 0:
            self.add_row("addi", number, number, low(word))

    def word_in(self, word, scratch):
        """Return a register that holds a word; this is the scratch register if the word is not 0."""
        if word == 0:
            return 0
        self.set_word(scratch, word)
        return scratch

    def give(self, variable, number):
        """Give the word of a register to a variable."""
        if variable >= FIRST_SLOT:
            self.store_cell(number, self.layout.offset(variable))
        elif variable != number:
            self.add_row("addi", variable, number, 0)

    def move(self, target, source):
        """Give the word of a register or slot to another one."""
        if source < FIRST_SLOT:
            self.give(target, source)
        else:
            self.load_cell(self.target(target), self.layout.offset(source))
            self.keep(target)

    def move_all(self, pairs):
        """Do several moves (target, source) at once."""
        for target, source in in_turn(pairs, SPARE):
            self.move(target, source)
