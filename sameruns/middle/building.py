"""Building the flow of a function, deed by deed."""

from sameruns.middle.flows import Flow


class FlowBuilder:
    """The flow of a function as far as it is lowered."""

    def __init__(self, function, known):
        self.name = function[1]
        self.params = tuple(range(len(function[2])))
        self.count = 0
        self.blocks = [[]]
        # The number of the block that is being filled, or None behind its end.
        self.current = 0
        # The number of the next statement, and the chain of the statement that is being lowered.
        self.number = 0
        self.chain = ()
        # For each while around the statement, innermost last: its head and the blocks of its breaks.
        self.loops = []
        self.words = {}
        self.rows = {}
        self.lengths = []
        for name, use in known.items():
            if use[0] == "array":
                self.rows[name] = (name, use[2])
        self.add_inner_names(function)

    def add_inner_names(self, function):
        """Give variables to the parameters and local words, and numbers to the local arrays."""
        for name in function[2]:
            self.words[name] = self.new_variable()
        for row in function[3]:
            if row[0] == "word":
                self.words[row[1]] = self.new_variable()
                self.emit(("word", self.words[row[1]], 0))
            else:
                self.rows[row[1]] = (len(self.lengths), row[2])
                self.lengths.append(row[2])

    def new_variable(self):
        """Return a new variable."""
        self.count += 1
        return self.count - 1

    def begin_statement(self):
        """Take the next number for a statement."""
        self.chain = ((self.name, self.number),)
        self.number += 1

    def begin_block(self):
        """Begin a block and return its number."""
        self.blocks.append([])
        self.current = len(self.blocks) - 1
        return self.current

    def emit(self, deed):
        """Put a deed behind those of the current block."""
        self.blocks[self.current].append(deed)

    def close(self, deed):
        """End the current block by a deed."""
        self.emit(deed)
        self.current = None

    def leave(self):
        """Leave the current block, whose end is not known yet, and return its number."""
        number = self.current
        self.current = None
        return number

    def finish(self, number, deed):
        """End a block that was left by a deed."""
        self.blocks[number].append(deed)

    def built(self):
        """Return the flow."""
        blocks = tuple([tuple(block) for block in self.blocks])
        return Flow(self.name, self.params, self.count, tuple(self.lengths), blocks)
